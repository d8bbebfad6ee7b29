"""Promises 3, 4, 9, 10 and 17 to 20: the book, its words, and what is told of things."""

import copy
import itertools
from random import Random

from truechain.book import Book
from truechain.ends import ends
from truechain.errors import ChainError, NoPaper, NoSpot, NoThing, TooMany, Twice, Wrong
from truechain.links import links
from truechain.texts import read_paper
from tests.chance import LAST, some_papers
from tests.helper import Case, Stubborn, book_of, junk, own_each_time, places_refused, words_of
from tests.model import Model

# A standard box, a scale beside it, a finer and a rougher scale, a box of level 1.
THINGS = (
    "101 0 thing st box 0 0 1,2,5",
    "102 0 thing ru scale 0 1/10 0,10",
    "103 0 thing ga scale 2 1/2 0,5,10",
    "104 0 thing bl box 1 0 1,2,3",
    "105 0 thing cl box 1 1/3 1,4",
)
NO_PAPERS = [
    (0, 1, "off", "st"), (1, -1, "off", "st"), (1, 1, "offs", "st"), (1, 1, "off", "ST"), (1, 1, "off"), (),
    (1, 1, "off", "st", None), [1, 1, "off", "st"], "1 1 off st", (1, 1, "read", "st", [2, 1]),
    (1, 1, "told", "st", 0, []), (1, 1, "made", "st", (0, 1), [(1, "st", 1)]),
]


def paper(text):
    return read_paper(text)


class Base(Case):

    def word(self, text, found, *ahead):
        """Check the word of a paper in a book of the things and some more papers, put last, first, or just asked."""
        key = int(text.split(" ")[0])
        self.assertEqual(book_of(*THINGS, *ahead, text).word(key), found, text)
        self.assertEqual(book_of(text, *ahead, *THINGS).word(key), found, text)
        self.assertEqual(book_of(*THINGS, *ahead).would(paper(text)), found, text)


class Keeping(Base):

    def test_a_book_of_none(self):
        book = Book()
        self.assertEqual((book.kept(), book.readings(), book.offs()), ([], [], []))
        for call in (book.paper, book.word, book.strike):
            self.refused(NoPaper, call, 7, key=7)
        self.refused(NoThing, book.thing, "st", name="st")
        self.assertEqual(book.would(paper(THINGS[0])), "stands")
        self.assertEqual(book.would(paper("1 1 off st")), "lacking")
        self.assertEqual(book.kept(), [])

    def test_put_and_strike(self):
        book = Book()
        for text in ("7 5 off st", "3 9 off st", "1000000000 0 off st", "5 5 off st"):
            self.assertIsNone(book.put(paper(text)))
        self.assertEqual(book.kept(), [3, 5, 7, 10 ** 9])
        self.assertEqual(book.paper(3), (3, 9, "off", "st"))
        self.assertIsNone(book.strike(5))
        self.assertEqual(book.kept(), [3, 7, 10 ** 9])
        for call in (book.paper, book.word, book.strike):
            self.refused(NoPaper, call, 5, key=5)
        self.assertEqual(book.kept(), [3, 7, 10 ** 9])

    def test_each_kind_is_kept_as_it_was_put(self):
        texts = (*THINGS, "1 1 told st 9 : 1 1 1 : 5 5 6", "2 2 held ga st 9 : 0 1,5 -1/2 1/7", "3 3 read ga 1,1,7",
                 "4 4 off ga", "5 5 harmed ga", "6 6 mended ga", "7 7 made ca 0 : 1 bl 1 : 2 bl 2 : 7 cl 1")
        book = book_of(*texts)
        for text in texts:
            self.assertEqual(book.paper(int(text.split(" ")[0])), paper(text))
        self.assertEqual(set(words_of(book).values()), {"stands"})

    def test_twice(self):
        book = book_of(*THINGS)
        for other in (THINGS[0], "101 7 off st", "101 0 thing zz box 0 0 1"):
            self.refused(Twice, book.put, paper(other), key=101)
            self.refused(Twice, book.would, paper(other), key=101)
            self.assertEqual(book.paper(101), paper(THINGS[0]))
            self.assertEqual(book.kept(), [101, 102, 103, 104, 105])
        self.refused(NoThing, book.thing, "zz", name="zz")

    def test_struck_and_put_again(self):
        book = book_of(*THINGS, "1 1 told st 9 : 1 1 1", "2 2 read st 1")
        book.strike(101)
        self.assertEqual((book.word(1), book.word(2), book.readings()), ("lacking", "lacking", []))
        self.refused(NoThing, book.thing, "st", name="st")
        book.put(paper(THINGS[0]))
        self.assertEqual((book.word(1), book.word(2), book.readings()), ("stands", "stands", [2]))
        book.strike(101)
        book.put(paper("101 2 thing st box 0 0 1"))
        self.assertEqual((book.word(1), book.word(2)), ("lacking", "stands"))
        self.assertEqual(book.thing("st"), ("box", 0, (0, 1), [1], 2, None))

    def test_sixty(self):
        book = Book()
        for key in range(1, 61):
            book.put((key, key, "off", "st"))
        self.assertEqual(book.kept(), list(range(1, 61)))
        self.refused(TooMany, book.put, (61, 1, "off", "st"), most=60)
        self.refused(Twice, book.put, (60, 1, "off", "st"), key=60)
        self.assertEqual(book.kept(), list(range(1, 61)))
        self.refused(NoPaper, book.paper, 61, key=61)
        # What it would be is told all the same.
        self.assertEqual(book.would((61, 1, "off", "st")), "lacking")
        self.assertEqual(book.would((61, 0, "thing", "st", "box", 0, (0, 1), [1])), "stands")
        self.refused(Twice, book.would, (60, 1, "off", "st"), key=60)
        book.strike(7)
        book.put((61, 0, "thing", "st", "box", 0, (0, 1), [1]))
        self.refused(TooMany, book.put, (7, 1, "off", "st"), most=60)
        self.assertEqual(book.kept(), [*range(1, 7), *range(8, 62)])
        self.assertEqual(book.offs(), [*range(1, 7), *range(8, 61)])
        self.assertEqual(book.copied().kept(), book.kept())
        self.refused(TooMany, book.copied().put, (7, 1, "off", "st"), most=60)

    def test_wrong_is_ahead_of_all_else(self):
        full = Book()
        for key in range(1, 61):
            full.put((key, key, "off", "st"))
        for book in (Book(), book_of(*THINGS), full):
            ahead = (book.kept(), words_of(book))
            for call in (book.put, book.would):
                places_refused(self, call, [paper(THINGS[0])], junk(), Wrong)
                for thing in NO_PAPERS:
                    self.refused(Wrong, call, thing, at=0)
            for call in (book.strike, book.paper, book.word):
                places_refused(self, call, [101], junk(), Wrong)
                for thing in (0, -1, 10 ** 9 + 1, True, "101", [101], (101,), None):
                    self.refused(Wrong, call, thing, at=0)
            self.assertEqual((book.kept(), words_of(book)), ahead)


class Words(Base):

    def test_stands(self):
        for text in THINGS:
            self.assertEqual(book_of(*THINGS).word(int(text.split(" ")[0])), "stands")
        for text in ("1 0 told st 0 : 1 1 1", "1 5 told ru 0 : 0 0 1 : 10 9 11", "1 0 held ga st 0 : 5 1,5 0 0",
                     "1 0 held ga bl 0 : 0 1 0 0", "1 0 held bl ru 0 : 1 3,4,5 0 0", "1 0 read ga 3,10", "1 0 off st",
                     "1 0 harmed st", "1 0 mended st", "1 1 made ca 0 : 1 bl 1", "1 1 made ca 0 : 1 bl 1 : 9 cl 4",
                     "1 9 thing ca box 5 0 0"):
            self.word(text, "stands")

    def test_taken(self):
        self.word("999 0 thing st box 0 0 1,2,5", "taken")
        self.word("106 7 thing ga scale 3 0 0,1", "taken")
        self.word("1 7 made ga 0 : 1 bl 1", "taken")
        # Ended or not.
        self.word("1 7 made bl 0 : 1 cl 1", "taken", "2 5 made ca 0 : 1 bl 1")
        self.word("1 7 thing bl box 0 0 1", "taken", "2 5 made ca 0 : 1 bl 1")
        self.word("1 7 thing ca box 0 0 1", "taken", "2 5 made ca 0 : 1 bl 1")
        self.word("1 7 made ca 0 : 1 cl 1", "taken", "2 5 made ca 0 : 1 bl 1")
        self.word("1 7 made ca 0 : 1 cl 1", "taken", "2 5 thing ca box 0 0 1")

    def word_of_first(self, found, *texts):
        book = book_of(*texts)
        self.assertEqual(book.word(int(texts[0].split(" ")[0])), found)

    def test_taken_by_what_came_ahead_in_order_of_time(self):
        self.word_of_first("stands", "1 0 thing a box 0 0 1", "2 0 thing a box 0 0 2", "3 1 thing a box 0 0 3")
        self.word_of_first("taken", "2 0 thing a box 0 0 2", "1 0 thing a box 0 0 1")
        self.word_of_first("stands", "2 0 thing a box 0 0 2", "1 1 thing a box 0 0 1")
        # A thing paper of the same day is ahead of a made one, whatever their keys.
        self.word_of_first("taken", "1 5 made a 0 : 1 b 1", "2 5 thing a box 0 0 2", "3 0 thing b box 0 0 1")
        self.word_of_first("stands", "2 5 thing a box 0 0 2", "1 5 made a 0 : 1 b 1", "3 0 thing b box 0 0 1")
        # What does not stand takes no name.
        self.word_of_first("stands", "1 6 thing a box 0 0 1", "2 5 made a 0 : 1 b 1")
        self.word_of_first("stands", "1 6 made a 0 : 1 b 1", "2 5 made a 0 : 1 b 7", "3 0 thing b box 0 0 1")

    def test_lacking(self):
        for text in ("1 0 told zz 0 : 1 1 1", "1 0 held zz st 0 : 1 1 0 0", "1 0 held ga zz 0 : 5 1 0 0",
                     "1 0 read zz 1", "1 0 off zz", "1 0 harmed zz", "1 0 mended zz", "1 5 made ca 0 : 1 zz 1",
                     "1 5 made ca 0 : 1 bl 1 : 2 zz 1"):
            self.word(text, "lacking")
        for text in ("1 4 told zz 0 : 1 1 1", "1 4 held ga zz 0 : 5 1 0 0", "1 4 read zz 1", "1 4 off zz",
                     "1 4 harmed zz", "1 4 mended zz", "1 4 made ca 0 : 1 zz 1"):
            late = text.replace("1 4", "1 5", 1)
            self.word(text, "lacking", "9 5 thing zz box 0 0 1")
            self.word(late, "lacking" if "made" in late else "stands", "9 5 thing zz box 0 0 1")
            self.word(late.replace("1 5", "1 6", 1), "stands", "9 5 thing zz box 0 0 1")

    def test_an_elder_that_began_on_this_very_day(self):
        self.word("1 5 made ca 0 : 1 bl 1 : 2 zz 1", "lacking", "9 5 thing zz box 1 0 1")
        self.word("1 6 made ca 0 : 1 bl 1 : 2 zz 1", "stands", "9 5 thing zz box 1 0 1")
        self.word("9 5 made da 0 : 1 ca 1", "lacking", "1 5 made ca 0 : 1 bl 1")
        self.word("9 6 made da 0 : 1 ca 1", "stands", "1 5 made ca 0 : 1 bl 1")

    def test_a_made_box_is_there_behind_the_breaks_of_its_day(self):
        for text, found in (("1 5 off ca", "lacking"), ("1 5 harmed ca", "lacking"), ("1 5 mended ca", "lacking"),
                            ("1 5 read ca 1", "stands"), ("1 5 held ca st 0 : 1 1 0 0", "stands"),
                            ("1 6 off ca", "stands"), ("1 4 read ca 1", "lacking"),
                            ("1 5 held ga ca 0 : 0 1 0 0", "stands")):
            self.word(text, found, "9 5 made ca 0 : 1 bl 1")

    def test_ended(self):
        made = "9 5 made ca 0 : 1 bl 1"
        for text in ("1 6 read bl 1", "1 6 held bl st 0 : 1 1 0 0", "1 6 held ga bl 0 : 0 1 0 0", "1 6 off bl",
                     "1 6 harmed bl", "1 6 mended bl", "1 6 made da 0 : 1 bl 2", "1 6 made da 0 : 1 cl 1 : 2 bl 2"):
            self.word(text, "ended", made)
            self.word(text.replace("1 6", "1 4", 1), "stands")
        self.word("1 6 told old 0 : 1 1 1", "ended", "2 0 thing old box 0 0 1", "3 5 made new 0 : 1 old 1")

    def test_ended_on_the_day_itself(self):
        made = "9 5 made ca 0 : 1 bl 1"
        for text, found in (("1 5 read bl 1", "ended"), ("1 5 held bl st 0 : 1 1 0 0", "ended"),
                            ("1 5 held ga bl 0 : 0 1 0 0", "ended"), ("1 5 off bl", "stands"),
                            ("1 5 mended bl", "stands"), ("1 5 made da 0 : 1 bl 2", "stands"),
                            ("10 5 made da 0 : 1 bl 2", "stands"), ("10 5 made da 0 : 1 bl 2 : 2 cl 4", "stands")):
            self.word(text, found, made)

    def test_harmed(self):
        for text in ("1 6 told st 0 : 1 1 1", "1 6 held ga st 0 : 0 1 0 0", "1 6 read st 1"):
            for day, found in ((5, "harmed"), (6, "harmed"), (7, "stands")):
                self.word(text, found, f"9 {day} harmed st")
            for mended in (5, 6):
                self.word(text, "stands", "9 5 harmed st", f"8 {mended} mended st")
                self.word(text, "stands", "8 5 harmed st", f"9 {mended} mended st")
            self.word(text, "harmed", "9 5 harmed st", "8 7 mended st")
            self.word(text, "harmed", "9 5 harmed st", "8 4 mended st")
            self.word(text, "harmed", "9 5 harmed st", "8 5 off st")
        self.word("1 6 held ga st 0 : 0 1 0 0", "harmed", "9 5 harmed ga")
        self.word("1 6 made ca 0 : 1 bl 1 : 2 cl 1", "harmed", "9 5 harmed bl")
        self.word("1 6 made ca 0 : 1 bl 1 : 2 cl 1", "harmed", "9 6 harmed cl")
        self.word("1 6 made ca 0 : 1 bl 1 : 2 cl 1", "stands", "9 5 harmed cl", "8 6 mended cl")

    def test_harmed_ones_may_be_off_harmed_and_mended(self):
        for text in ("1 6 off st", "1 6 harmed st", "1 6 mended st"):
            self.word(text, "stands", "9 5 harmed st")
        self.word("1 5 off st", "stands", "9 5 harmed st")
        self.word("10 5 harmed st", "stands", "9 5 harmed st")
        self.word("1 5 mended st", "stands")

    def test_what_does_not_stand_harms_nothing(self):
        self.word("1 6 read zz 1", "stands", "9 3 harmed zz", "8 4 thing zz box 0 0 1")
        self.word("1 6 read ca 1", "stands", "9 5 made ca 0 : 1 bl 1", "8 5 harmed ca")

    def test_unfit_told(self):
        for text, found in (("1 6 told bl 0 : 1 1 1", "unfit"), ("1 6 told ga 0 : 0 1 1", "unfit"),
                            ("1 6 told st 0 : 3 1 1", "unfit"), ("1 6 told st 0 : 1 1 1 : 3 1 1", "unfit"),
                            ("1 6 told st 0 : 3 1 1 : 5 1 1", "unfit"), ("1 6 told ru 0 : 5 1 1", "unfit"),
                            ("1 6 told st 0 : 1 1 1 : 2 1 1 : 5 1 1", "stands"), ("1 6 told ru 0 : 10 1 1", "stands")):
            self.word(text, found)

    def test_unfit_held(self):
        for text, found in (("1 6 held bl cl 0 : 1 1 0 0", "unfit"), ("1 6 held bl ga 0 : 1 1 0 0", "unfit"),
                            ("1 6 held st ru 0 : 1 1 0 0", "unfit"), ("1 6 held ga ga 0 : 0 0 0 0", "unfit"),
                            ("1 6 held ga st 0 : 1 1 0 0", "unfit"), ("1 6 held ga st 0 : 0 1 0 0 : 4 1 0 0", "unfit"),
                            ("1 6 held ga st 0 : 0 3 0 0", "unfit"), ("1 6 held ga st 0 : 0 1 0 0 : 5 1,1 0 0", "unfit"),
                            ("1 6 held ga ru 0 : 0 11 0 0", "unfit"), ("1 6 held ga ru 0 : 0 3,3 0 0", "stands"),
                            ("1 6 held bl st 0 : 3 1,2,5 0 0", "stands"), ("1 6 held ga cl 0 : 10 1,4 0 0", "stands"),
                            ("1 6 held bl st 0 : 4 1 0 0", "unfit")):
            self.word(text, found)

    def test_unfit_read(self):
        for text, found in (("1 6 read st 3", "unfit"), ("1 6 read st 1,1", "unfit"), ("1 6 read st 1,5", "stands"),
                            ("1 6 read ga 11", "unfit"), ("1 6 read ga 0,3,3,10", "stands"),
                            ("1 6 read ga 0,3,3,11", "unfit")):
            self.word(text, found)

    def test_unfit_made(self):
        for text, found in (("1 6 made ca 0 : 1 ru 0", "unfit"), ("1 6 made ca 0 : 1 bl 1 : 2 ga 0", "unfit"),
                            ("1 6 made ca 0 : 1 bl 1 : 2 st 1", "unfit"), ("1 6 made ca 0 : 1 st 1 : 2 bl 1", "unfit"),
                            ("1 6 made ca 0 : 1 bl 4", "unfit"), ("1 6 made ca 0 : 1 bl 1 : 2 cl 2", "unfit"),
                            ("1 6 made ca 0 : 1 cl 4 : 2 bl 1", "stands"), ("1 6 made ca 0 : 9 st 5", "stands")):
            self.word(text, found)

    def test_a_piece_that_was_taken(self):
        first = "5 6 made ca 0 : 1 bl 1 : 2 cl 4"
        for text, found in (("6 6 made da 0 : 1 bl 1", "unfit"), ("6 6 made da 0 : 1 bl 2", "stands"),
                            ("6 6 made da 0 : 1 bl 2 : 2 cl 4", "unfit"), ("6 6 made da 0 : 1 cl 1 : 2 bl 3", "stands"),
                            ("4 6 made da 0 : 1 bl 1", "stands")):
            self.word(text, found, first)
        # The piece of what does not stand is not taken.
        self.word("6 6 made da 0 : 1 bl 1", "stands", "5 6 made ca 0 : 1 bl 1 : 2 cl 7")
        self.word("6 6 made da 0 : 1 bl 1", "stands", "5 6 made bl 0 : 1 cl 1")
        book = book_of(*THINGS, first, "4 6 made da 0 : 1 bl 1")
        self.assertEqual((book.word(4), book.word(5)), ("stands", "unfit"))
        self.refused(NoThing, book.thing, "ca", name="ca")
        self.assertEqual(book.thing("cl")[5], None)

    def test_the_first_of_two_words_is_told(self):
        ended = "9 5 made ca 0 : 1 bl 1"
        for text, found, *ahead in (
                # Taken and lacking, ended, harmed, unfit.
                ("1 6 made ga 0 : 1 zz 1", "taken"), ("1 6 made ga 0 : 1 bl 2", "taken", ended),
                ("1 6 made ga 0 : 1 bl 2", "taken", "9 5 harmed bl"), ("1 6 made ga 0 : 1 ru 0", "taken"),
                # Lacking and ended, harmed, unfit.
                ("1 6 made da 0 : 1 bl 2 : 2 zz 1", "lacking", ended), ("1 6 held ga zz 0 : 0 1 0 0", "lacking", "9 5 harmed ga"),
                ("1 6 held ga zz 0 : 1 1 0 0", "lacking"), ("1 6 held zz bl 0 : 1 1 0 0", "lacking", ended),
                ("1 6 made da 0 : 1 ru 0 : 2 zz 1", "lacking"),
                ("1 6 made da 0 : 1 ru 0 : 2 zz 1", "lacking", "9 6 thing zz box 0 0 1"),
                ("1 6 made da 0 : 1 bl 2 : 2 zz 1", "lacking", "9 6 thing zz box 0 0 1", "8 5 made ca 0 : 1 bl 1"),
                # Ended and harmed, unfit.
                ("1 6 held ga bl 0 : 0 1 0 0", "ended", ended, "8 5 harmed ga"),
                ("1 6 held ga bl 0 : 1 1 0 0", "ended", ended), ("1 6 read bl 9", "ended", ended),
                ("1 6 made da 0 : 1 bl 9", "ended", ended), ("1 6 made da 0 : 1 bl 1", "ended", ended),
                ("1 6 made da 0 : 1 bl 2 : 2 cl 1", "ended", ended, "8 6 harmed cl"),
                # Harmed and unfit.
                ("1 6 told bl 0 : 1 1 1", "harmed", "9 5 harmed bl"), ("1 6 read st 9", "harmed", "9 5 harmed st"),
                ("1 6 held ga st 0 : 1 9 0 0", "harmed", "9 5 harmed st"),
                ("1 6 held bl ga 0 : 1 1 0 0", "harmed", "9 5 harmed ga"),
                ("1 6 made da 0 : 1 ru 0", "harmed", "9 5 harmed ru"),
                ("1 6 made da 0 : 1 st 1 : 2 bl 1", "harmed", "9 5 harmed bl")):
            self.word(text, found, *ahead)

    def test_what_does_not_stand_counts_for_nothing(self):
        book = book_of(*THINGS, "1 5 made ca 0 : 1 bl 9", "2 5 thing bl box 0 0 7", "3 5 told bl 9 : 1 1 1",
                       "4 5 held bl cl 9 : 1 1 0 0", "5 5 off zz", "6 5 read bl 9", "7 6 read bl 1")
        self.assertEqual(book.thing("bl"), ("box", 1, (0, 1), [1, 2, 3], 0, None))
        self.assertEqual((book.own("bl"), book.breaks("bl"), book.offs(), book.readings()), ([], [], [], [7]))

    def test_would_changes_nothing(self):
        book = book_of(*THINGS)
        for text in ("1 5 made ca 0 : 1 bl 1", "1 5 harmed st", "1 0 thing zz box 0 0 1"):
            ahead = words_of(book)
            self.assertEqual(book.would(paper(text)), "stands")
            self.assertEqual(words_of(book), ahead)
        self.assertEqual(book.thing("bl")[5], None)
        self.assertIs(book.harmed("st", 9), False)
        self.refused(NoThing, book.thing, "zz", name="zz")


class Things(Base):

    def test_what_a_thing_paper_begins(self):
        book = book_of(*THINGS, "1 7 thing zz scale 5 3/2 0,999,1000")
        self.assertEqual(book.thing("st"), ("box", 0, (0, 1), [1, 2, 5], 0, None))
        self.assertEqual(book.thing("ru"), ("scale", 0, (1, 10), [0, 10], 0, None))
        self.assertEqual(book.thing("zz"), ("scale", 5, (3, 2), [0, 999, 1000], 7, None))
        self.assertIs(type(book.thing("zz")), tuple)

    def test_a_box_of_one_elder(self):
        book = book_of(*THINGS, "1 5 made ca 3/4 : 7 bl 3 : 9 bl 1")
        self.assertEqual(book.thing("ca"), ("box", 1, (3, 4), [7, 9], 5, None))
        self.assertEqual(book.thing("bl"), ("box", 1, (0, 1), [1, 2, 3], 0, 5))
        self.assertEqual(book.line("ca", 7), [("ca", 7), ("bl", 3)])
        self.assertEqual(book.line("ca", 9), [("ca", 9), ("bl", 1)])
        self.assertEqual(book.line("bl", 2), [("bl", 2)])

    def test_a_box_of_two_elders(self):
        book = book_of(*THINGS, "1 5 made ca 0 : 1 cl 4 : 2 bl 2 : 3 cl 1")
        self.assertEqual(book.thing("ca"), ("box", 1, (0, 1), [1, 2, 3], 5, None))
        self.assertEqual((book.thing("bl")[5], book.thing("cl")[5]), (5, 5))
        self.assertEqual([book.line("ca", mark) for mark in (1, 2, 3)],
                         [[("ca", 1), ("cl", 4)], [("ca", 2), ("bl", 2)], [("ca", 3), ("cl", 1)]])

    def test_two_boxes_of_one_elder_on_one_day(self):
        book = book_of(*THINGS, "1 5 made ca 0 : 1 bl 1", "2 5 made da 1 : 1 bl 2 : 2 cl 1")
        self.assertEqual(book.thing("da"), ("box", 1, (1, 1), [1, 2], 5, None))
        self.assertEqual((book.thing("bl")[5], book.thing("cl")[5]), (5, 5))
        self.assertEqual((book.line("ca", 1), book.line("da", 1)), ([("ca", 1), ("bl", 1)], [("da", 1), ("bl", 2)]))

    def test_a_line_down_two_boxes(self):
        book = book_of(*THINGS, "1 5 made ca 0 : 3 bl 1 : 4 bl 3", "2 9 made da 0 : 7 ca 4 : 8 cl 4 : 9 ca 3")
        self.assertEqual(book.line("da", 7), [("da", 7), ("ca", 4), ("bl", 3)])
        self.assertEqual(book.line("da", 8), [("da", 8), ("cl", 4)])
        self.assertEqual(book.line("da", 9), [("da", 9), ("ca", 3), ("bl", 1)])
        self.assertEqual(book.line("ca", 3), [("ca", 3), ("bl", 1)])
        self.assertEqual([book.thing(name)[4:] for name in ("bl", "ca", "cl", "da")],
                         [(0, 5), (5, 9), (0, 9), (9, None)])

    def test_there(self):
        book = book_of(*THINGS, "1 5 thing zz box 1 0 1", "2 8 made ca 0 : 1 zz 1")
        self.assertEqual([book.there("zz", day) for day in (0, 4, 5, 6, 7, 8, 9, 10 ** 6)],
                         [False, False, True, True, True, False, False, False])
        self.assertEqual([book.there("ca", day) for day in (7, 8, 9, 10 ** 6)], [False, True, True, True])
        self.assertEqual([book.there("st", day) for day in (0, 1, 10 ** 6)], [True] * 3)

    def test_harmed(self):
        book = book_of(*THINGS, "1 5 harmed st", "2 8 mended st", "3 9 mended st", "4 11 harmed st", "5 12 harmed st",
                       "6 12 mended st", "7 20 harmed st", "8 21 off st")
        self.assertEqual([day for day in range(25) if book.harmed("st", day)], [5, 6, 7, 11, 20, 21, 22, 23, 24])
        self.assertIs(book.harmed("st", 10 ** 6), True)
        self.assertIs(book.harmed("st", 0), False)
        self.assertEqual([day for day in range(25) if book.harmed("ru", day)], [])

    def test_harmed_ahead_of_the_beginning(self):
        book = book_of("1 5 thing zz box 1 0 1", "2 5 harmed zz", "3 0 harmed zz", "4 4 harmed zz")
        self.assertEqual([book.harmed("zz", day) for day in (0, 3, 4, 5, 6)], [False, False, False, True, True])

    def test_breaks(self):
        book = book_of(*THINGS, "1 9 off st", "2 5 harmed st", "3 5 mended st", "4 9 mended st", "5 7 off st",
                       "6 0 off st", "7 3 off ru", "8 4 read st 1", "9 4 told st 0 : 1 1 1", "10 2 off zz")
        self.assertEqual(book.breaks("st"), [0, 5, 7, 9])
        self.assertEqual(book.breaks("ru"), [3])
        self.assertEqual(book.breaks("ga"), [])

    def test_breaks_on_the_day_on_which_a_box_is_made(self):
        book = book_of(*THINGS, "1 5 off bl", "2 5 made ca 0 : 1 bl 1", "3 5 off ca", "4 6 off bl", "5 6 off ca")
        self.assertEqual((book.breaks("bl"), book.breaks("ca")), ([5], [6]))

    def test_own(self):
        book = book_of(*THINGS, "9 1 held ga st 0 : 0 1 0 0", "8 1 held ga ru 0 : 0 1 0 0", "7 3 held ga bl 0 : 0 1 0 0",
                       "1 5 held ga st 0 : 0 1 0 0", "2 4 held bl st 0 : 1 1 0 0", "3 9 told st 0 : 1 1 1",
                       "4 7 told st 0 : 2 1 1", "5 8 held ga bl 0 : 3 1 0 0", "6 8 read ga 1")
        self.assertEqual(book.own("ga"), [8, 9, 7, 1])
        self.assertEqual(book.own("st"), [4, 3])
        self.assertEqual(book.own("bl"), [2])
        self.assertEqual(book.own("ru"), [])

    def test_own_of_a_box_are_not_those_of_its_elders(self):
        book = book_of(*THINGS, "1 1 held bl st 99 : 1 1 0 0", "2 5 made ca 0 : 1 bl 1", "3 6 held ca st 0 : 1 1 0 0")
        self.assertEqual((book.own("bl"), book.own("ca")), ([1], [3]))

    def test_readings_and_offs(self):
        book = book_of(*THINGS, "9 1 read ga 1", "3 5 read ga 2", "7 2 read ga 11", "8 1 read zz 1", "6 9 off ga",
                       "2 1 off ga", "4 1 off ru", "5 1 off zz", "1 1 harmed st")
        self.assertEqual((book.readings(), book.offs()), ([3, 9], [2, 4, 6]))
        book.strike(103)
        self.assertEqual((book.readings(), book.offs()), ([], [4]))

    def test_no_thing_then_no_spot(self):
        book = book_of(*THINGS, "1 5 made ca 0 : 1 bl 1")
        for name in ("zz", "a", "thing"):
            for call, *rest in ((book.thing,), (book.there, 5), (book.harmed, 5), (book.breaks,), (book.own,),
                                (book.line, 1), (book.line, 999)):
                self.refused(NoThing, call, name, *rest, name=name)
        for name, mark in (("st", 3), ("ga", 1), ("ru", 5), ("ca", 2), ("bl", 4), ("bl", 1000)):
            self.refused(NoSpot, book.line, name, mark)
        self.assertEqual(book.line("bl", 1), [("bl", 1)])

    def test_wrong_is_ahead_of_all_else(self):
        for book in (Book(), book_of(*THINGS)):
            bad = [thing for thing in junk() if not isinstance(thing, int) or isinstance(thing, bool)]
            for call in (book.thing, book.breaks, book.own):
                places_refused(self, call, ["st"], bad, Wrong)
            for call in (book.there, book.harmed, book.line):
                places_refused(self, call, ["st", 1], bad + [-1, 10 ** 6 + 1], Wrong)
                self.refused(Wrong, call, "zz", -1, at=1)
                self.refused(Wrong, call, "ZZ", -1, at=0)
                self.refused(Wrong, call, 1, "st", at=0)
                self.refused(Wrong, call, "st", Stubborn(), at=1)
            self.refused(Wrong, book.line, "st", 1001, at=1)
            self.refused(Wrong, book.line, "zz", True, at=1)


class Order(Base):

    def told(self, book):
        """All that a book tells of itself, of its things, and of each mark on some days."""
        found = [book.kept(), words_of(book), [book.paper(key) for key in book.kept()], book.readings(), book.offs()]
        for name in ("st", "ru", "bl", "ga", "fi", "ma", "mb", "mc", "cl", "ca", "da", "zz"):
            try:
                thing = book.thing(name)
            except NoThing:
                continue
            found.append((name, thing, book.breaks(name), book.own(name)))
            for day in range(0, LAST + 3, 2):
                found.append((book.there(name, day), book.harmed(name, day)))
            for mark in thing[3]:
                found.append(book.line(name, mark))
                for day in range(LAST + 3):
                    if book.there(name, day):
                        found.append((links(book, name, mark, day), ends(book, name, [mark], day, [])))
        return found

    def test_the_same_papers_in_every_order(self):
        texts = ("1 0 thing bl box 0 0 1,2", "2 3 made ca 0 : 1 bl 1", "3 3 made da 0 : 1 bl 1", "4 2 told bl 9 : 1 1 2",
                 "5 4 read ca 1", "6 3 off bl")
        first = self.told(book_of(*texts))
        for order in itertools.permutations(texts):
            self.assertEqual(self.told(book_of(*order)), first)

    def test_the_same_papers_with_others_put_and_struck_between(self):
        chance = Random(9)
        for _ in range(25):
            papers = some_papers(chance, 50)
            kept, others = papers[:30], papers[30:]
            plain = Book()
            for one in kept:
                plain.put(one)
            first = self.told(plain)
            for _ in range(3):
                book, pending = Book(), []
                order = kept + others
                chance.shuffle(order)
                for one in order:
                    book.put(one)
                    if one in others:
                        pending.append(one[0])
                    elif chance.random() < 0.2:
                        book.strike(one[0])
                        book.put(one)
                    if chance.random() < 0.3:
                        book.word(one[0])
                        book.readings()
                    if pending and chance.random() < 0.5:
                        book.strike(pending.pop(chance.randrange(len(pending))))
                for key in pending:
                    book.strike(key)
                self.assertEqual(self.told(book), first)
                self.assertEqual(self.told(book.copied()), first)

    def test_as_the_model_tells(self):
        seen = set()
        for seed in range(250):
            chance = Random(seed)
            papers = some_papers(chance, chance.randrange(5, 55))
            model, book = Model(papers), Book()
            for one in papers:
                self.assertEqual(book.would(one), Model([*(book.paper(key) for key in book.kept()), one]).words[one[0]])
                book.put(one)
            self.assertEqual(words_of(book), dict(sorted(model.words.items())))
            seen |= {(one[2], model.words[one[0]]) for one in papers}
            self.assertEqual((book.readings(), book.offs()), (model.standing("read"), model.standing("off")))
            for name, thing in model.things.items():
                self.assertEqual(book.thing(name),
                                 (thing.sort, thing.level, thing.rate, thing.marks, thing.begin, thing.end))
                self.assertEqual(book.breaks(name), model.breaks(name))
                self.assertEqual(book.own(name), [one[0] for one in thing.own])
                for mark in thing.marks:
                    self.assertEqual(book.line(name, mark), model.line(name, mark))
                for day in range(LAST + 3):
                    self.assertIs(book.there(name, day), thing.has_on(day))
                    self.assertIs(book.harmed(name, day), thing.harmed_on(day))
        # Each word that a paper of its kind can have was among them.
        self.assertEqual(len(seen), 32)

    def test_what_is_not_bound_up_with_a_paper_stays(self):
        own = ("1 0 thing aa box 0 0 1", "2 1 told aa 9 : 1 1 2", "3 2 read aa 1", "4 3 made ab 0 : 1 aa 1")
        other = ("11 0 thing ba box 0 0 1", "12 1 told ba 9 : 1 1 2", "13 2 harmed ba", "14 3 made bb 0 : 1 ba 1")
        alone = book_of(*own)
        for many in range(5):
            book = book_of(*other[:many], *own)
            for name in ("aa", "ab"):
                self.assertEqual(book.thing(name), alone.thing(name))
                self.assertEqual(book.own(name), alone.own(name))
            self.assertEqual({key: book.word(key) for key in (1, 2, 3, 4)}, words_of(alone))


class Lists(Base):

    def test_a_paper_whose_lists_are_changed_behind_put(self):
        for text in (THINGS[0], "1 1 told st 9 : 1 1 1", "2 2 held ga st 9 : 0 1,5 -1/2 1/7", "3 3 read ga 1,1,7",
                     "7 7 made ca 0 : 1 bl 1 : 2 bl 2"):
            book, handed = Book(), paper(text)
            ahead = copy.deepcopy(handed)
            book.put(handed)
            self.assertEqual(handed, ahead)
            handed[-1].append("spoilt")
            if text.startswith("2 "):
                handed[-1][0][1].append(7)
            self.assertEqual(book.paper(handed[0]), ahead)
            own_each_time(self, lambda book=book, key=handed[0]: book.paper(key))

    def test_what_was_put_counts_as_it_was_put(self):
        book, handed = Book(), paper(THINGS[0])
        book.put(handed)
        handed[-1].append(7)
        self.assertEqual(book.thing("st")[3], [1, 2, 5])
        other, asked = Book(), paper(THINGS[0])
        self.assertEqual(other.would(asked), "stands")
        self.assertEqual(asked, paper(THINGS[0]))
        told = book.paper(101)
        told[-1].clear()
        self.assertEqual(book.thing("st")[3], [1, 2, 5])
        self.assertEqual(book.would(paper("9 9 read st 1,2,5")), "stands")
        held = paper("2 2 held ga st 9 : 0 1,5 -1/2 1/7")
        for text in THINGS[1:]:
            book.put(paper(text))
        book.put(held)
        held[-1][0][1].pop()
        held[-1].clear()
        self.assertEqual(len(links(book, "ga", 0, 3)[0][3]), 2)

    def test_what_is_told_is_the_askers_own(self):
        book = book_of(*THINGS, "1 1 told st 9 : 1 1 1", "2 2 held ga st 9 : 0 1,5 -1/2 1/7", "3 3 read ga 1,1,7",
                       "4 4 off ga", "7 7 made ca 0 : 1 bl 1 : 2 bl 2")
        for ask in (book.kept, book.readings, book.offs, lambda: book.thing("st"), lambda: book.thing("ca"),
                    lambda: book.breaks("ga"), lambda: book.own("ga"), lambda: book.line("ca", 2),
                    lambda: book.paper(2), lambda: book.paper(7)):
            own_each_time(self, ask)


class Copies(Base):

    def test_a_copied_book_and_its_first_one_go_on_by_themselves(self):
        book = book_of(*THINGS)
        other = book.copied()
        self.assertIs(type(other), Book)
        self.assertEqual((other.kept(), words_of(other)), (book.kept(), words_of(book)))
        book.put(paper("1 5 made ca 0 : 1 bl 1"))
        self.assertEqual((book.thing("bl")[5], other.thing("bl")[5]), (5, None))
        self.refused(NoThing, other.thing, "ca", name="ca")
        other.put(paper("1 7 made da 0 : 1 bl 1"))
        self.assertEqual((book.thing("bl")[5], other.thing("bl")[5]), (5, 7))
        self.refused(NoThing, book.thing, "da", name="da")
        other.strike(101)
        self.assertEqual((book.kept(), other.kept()), ([1, 101, 102, 103, 104, 105], [1, 102, 103, 104, 105]))
        book.strike(1)
        self.assertEqual(other.paper(1), paper("1 7 made da 0 : 1 bl 1"))
        third = other.copied()
        third.strike(1)
        self.assertEqual((other.kept(), third.kept()), ([1, 102, 103, 104, 105], [102, 103, 104, 105]))
        self.assertEqual(Book().kept(), [])

    def test_a_copy_of_none(self):
        book = Book()
        other = book.copied()
        other.put(paper(THINGS[0]))
        self.assertEqual((book.kept(), other.kept()), ([], [101]))

    def test_lists_of_a_copy(self):
        book = book_of(*THINGS)
        other = book.copied()
        book.paper(101)[-1].clear()
        other.paper(101)[-1].clear()
        self.assertEqual(book.paper(101), other.paper(101))
        self.assertEqual(other.thing("st")[3], [1, 2, 5])

    def test_two_books_know_nothing_of_one_another(self):
        one, other = Book(), Book()
        one.put(paper(THINGS[0]))
        self.assertEqual((one.kept(), other.kept()), ([101], []))


class RefusedChangesNothing(Base):

    def test_it(self):
        book = book_of(*THINGS, "1 1 told st 9 : 1 1 1", "3 3 read st 1")
        ahead = (book.kept(), words_of(book), book.thing("st"), book.own("st"))
        for call, *arguments in ((book.put, paper("1 9 off st")), (book.put, (9, 9, "off")), (book.strike, 99),
                                 (book.strike, 0), (book.would, paper("1 9 off st")), (book.paper, 99),
                                 (book.word, 99), (book.line, "st", 99), (book.line, "zz", 1), (book.there, "st", -1)):
            with self.assertRaises(ChainError):
                call(*arguments)
            self.assertEqual((book.kept(), words_of(book), book.thing("st"), book.own("st")), ahead)
