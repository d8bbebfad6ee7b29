"""Promises 3, 4, 30 and 31: the answers of readings, and how long a spot lasts."""

import copy
from random import Random
from time import perf_counter

from truechain.answers import answer, lasts
from truechain.book import Book
from truechain.doubts import all_windows, doubted
from truechain.ends import ends
from truechain.errors import NoReading, NoThing, Wrong
from truechain.texts import read_paper
from tests.chance import LAST, fitting_papers, layered_papers, spot_of, some_papers
from tests.helper import Case, Stubborn, book_of, junk, places_refused, words_of
from tests.teller import Teller

THINGS = (
    "101 0 thing st box 0 0 1,2,5",
    "102 0 thing ru scale 0 0 0,10",
    "103 0 thing ga scale 2 0 0,5,10",
    "104 0 thing bl box 1 0 1,2,3",
)


class Base(Case):

    def book(self, *texts):
        """A book of the things and more papers, all of which stand."""
        return self.standing(*THINGS, *texts)


class Answer(Base):

    def test_within(self):
        book = self.book("1 2 told st 90 : 1 1/2 3/2 : 5 5 6", "10 8 read st 1", "11 8 read st 1,5", "12 2 read st 5")
        self.assertEqual(answer(book, 10), ("within", (1, 2), (3, 2)))
        self.assertEqual(answer(book, 11), ("within", (11, 2), (15, 2)))
        self.assertEqual(answer(book, 12), ("within", (5, 1), (6, 1)))
        self.assertIs(type(answer(book, 10)), tuple)

    def test_within_where_the_ends_are_the_same(self):
        book = self.book("1 2 told st 90 : 1 1 2", "2 2 told st 90 : 1 2 3", "10 8 read st 1")
        self.assertEqual(answer(book, 10), ("within", (2, 1), (2, 1)))

    def test_apart(self):
        book = self.book("1 2 told st 90 : 1 1 2", "2 2 told st 90 : 1 2001/1000 3", "10 8 read st 1")
        self.assertEqual(answer(book, 10), ("apart", (2001, 1000), (2, 1)))

    def test_bare(self):
        book = self.book("1 2 told st 5 : 1 1 2", "10 8 read st 1", "11 1 read st 1", "12 3 read st 1,2", "13 3 read ga 1",
                         "14 3 off st", "15 3 read st 1")
        for key in (10, 11, 12, 13, 15):
            self.assertEqual(answer(book, key), ("bare",))

    def test_doubtful(self):
        texts = ("1 2 told st 90 : 1 1 2", "2 4 held ga st 90 : 0 1 0 0", "10 8 read ga 0", "11 2 read st 1", "12 3 read st 1")
        book = self.book(*texts, "20 9 off st")
        self.assertEqual([answer(book, key) for key in (10, 11, 12)],
                         [("doubtful",), ("within", (1, 1), (2, 1)), ("doubtful",)])
        book = self.book(*texts, "20 9 off st", "3 4 told st 0 : 1 1 2")
        self.assertEqual([answer(book, key)[0] for key in (10, 11, 12)], ["within"] * 3)
        book = self.book(*texts, "20 9 off ga")
        self.assertEqual([answer(book, key)[0] for key in (10, 11, 12)], ["doubtful", "within", "within"])
        book = self.book(*texts, "20 8 off ga")
        self.assertEqual([answer(book, key)[0] for key in (10, 11, 12)], ["bare", "within", "within"])

    def test_by_the_chains_that_go_through_no_window(self):
        texts = ("1 2 told st 90 : 1 5 6", "2 2 told ru 90 : 0 0 9", "3 4 held ga st 90 : 0 1 0 0", "4 4 held ga ru 90 : 0 0 0 0",
                 "10 8 read ga 0")
        for more, found in (((), ("within", (5, 1), (6, 1))), (("20 6 off st",), ("within", (0, 1), (9, 1))),
                            (("20 6 off ru",), ("within", (5, 1), (6, 1))), (("20 6 off st", "21 6 off ru"), ("doubtful",)),
                            (("20 6 off st", "21 7 off st"), ("within", (0, 1), (9, 1)))):
            self.assertEqual(answer(self.book(*texts, *more), 10), found)

    def test_a_quarrel_that_goes_with_its_doubtful_side(self):
        texts = ("1 2 told st 90 : 1 5 6", "2 2 told ru 90 : 0 0 1", "3 4 held ga st 90 : 0 1 0 0", "4 4 held ga ru 90 : 0 0 0 0",
                 "10 8 read ga 0")
        self.assertEqual(answer(self.book(*texts), 10), ("apart", (5, 1), (1, 1)))
        self.assertEqual(answer(self.book(*texts, "20 6 off st"), 10), ("within", (0, 1), (1, 1)))

    def test_no_reading(self):
        book = book_of(*THINGS, "1 2 told st 90 : 1 5 6", "10 8 read st 3", "11 8 read zz 1", "12 8 read st 1", "13 8 off st",
                       "14 9 read ga 11", "15 7 harmed bl", "16 8 read bl 1")
        for key in (1, 10, 11, 13, 14, 15, 16, 17, 101, 10 ** 9):
            self.refused(NoReading, answer, book, key, key=key)
        self.assertEqual(answer(book, 12), ("bare",))
        self.refused(NoReading, answer, Book(), 12, key=12)

    def test_wrong(self):
        book = self.book("10 8 read st 1")
        places_refused(self, answer, [book, 10], junk(), Wrong)
        for key in (0, -1, 10 ** 9 + 1, True, "1", None, [1], Stubborn()):
            self.refused(Wrong, answer, book, key, at=1)
            self.refused(Wrong, answer, Book, key, at=0)

    def test_a_book_that_goes_on(self):
        book = self.book("1 2 told st 90 : 1 5 6", "10 8 read st 1")
        ahead = copy.deepcopy((words_of(book), [book.paper(key) for key in book.kept()]))
        self.assertEqual([answer(book, 10), answer(book, 10)], [("within", (5, 1), (6, 1))] * 2)
        self.assertEqual((words_of(book), [book.paper(key) for key in book.kept()]), ahead)
        book.put(read_paper("2 9 off st"))
        self.assertEqual(answer(book, 10), ("doubtful",))
        book.strike(1)
        self.assertEqual(answer(book, 10), ("bare",))
        book.strike(10)
        self.refused(NoReading, answer, book, 10, key=10)


class Lasts(Base):

    def test_to_the_end_of_the_term(self):
        book = self.book("1 3 told st 9 : 1 0 1 : 2 0 1", "2 4 told st 9 : 2 0 1", "3 3 told st 0 : 5 0 1")
        for spot, day, last in (([1], 3, 12), ([1], 12, 12), ([1], 13, None), ([1], 2, None), ([2], 3, 13), ([2], 13, 13),
                                ([1, 2], 3, 12), ([1, 2], 5, 12), ([1, 2], 13, None), ([5], 3, 3), ([1, 5], 3, 3),
                                ([1, 5], 4, None), ([2, 5], 2, None)):
            self.assertEqual(lasts(book, "st", spot, day), last, (spot, day))

    def test_terms_one_after_the_other(self):
        book = self.book("1 3 told st 2 : 1 0 1", "2 6 told st 2 : 1 0 1", "3 8 told st 7 : 1 0 1", "4 17 told st 1 : 1 0 1")
        for day, last in ((3, 15), (5, 15), (15, 15), (16, None), (17, 18), (18, 18), (19, None)):
            self.assertEqual(lasts(book, "st", [1], day), last, day)

    def test_to_a_break(self):
        book = self.book("1 3 told st 90 : 1 0 1", "2 7 mended st")
        self.assertEqual(lasts(book, "st", [1], 4), 6)
        self.assertEqual(lasts(book, "st", [1], 6), 6)
        self.assertIsNone(lasts(book, "st", [1], 7))
        book = self.book("1 3 told st 90 : 1 0 1", "2 7 mended st", "3 7 told st 2 : 1 0 1")
        self.assertEqual(lasts(book, "st", [1], 4), 9)
        book = self.book("1 3 told st 90 : 1 0 1", "2 7 mended ru")
        self.assertEqual(lasts(book, "st", [1], 4), 93)

    def test_up_to_a_window(self):
        book = self.book("1 3 told st 90 : 1 0 1 : 2 0 1", "2 5 told st 90 : 2 0 1", "3 9 off st")
        # st 1 is in doubt from day 4 on, st 2 from day 6 on.
        for spot, day, last in (([1], 3, 3), ([1], 4, None), ([2], 3, 5), ([1, 2], 3, 3), ([2], 6, None), ([1], 9, None)):
            self.assertEqual(lasts(book, "st", spot, day), last, (spot, day))

    def test_behind_a_window(self):
        # The window ends on the day of the off paper, on which holdings may be made.
        book = self.book("1 3 told st 90 : 1 0 1", "2 9 off st", "3 9 told st 5 : 1 0 1")
        for day, last in ((3, 3), (4, None), (8, None), (9, 14), (14, 14), (15, None)):
            self.assertEqual(lasts(book, "st", [1], day), last, day)

    def test_a_chain_that_goes_through_a_window_below_does_not_count(self):
        texts = ("1 2 told st 90 : 1 0 1", "2 4 held ga st 9 : 0 1 0 0", "3 6 off st")
        self.assertIsNone(lasts(self.book(*texts), "ga", [0], 5))
        self.assertEqual(lasts(self.book(*texts, "4 4 told st 0 : 1 0 1"), "ga", [0], 5), 13)
        book = self.book(*texts, "4 1 told ru 90 : 0 0 1", "5 3 held ga ru 4 : 0 0 0 0")
        self.assertEqual(lasts(book, "ga", [0], 4), 7)

    def test_a_holding_whose_parts_have_no_chain_does_not_count(self):
        book = self.book("1 2 told st 1 : 1 0 1", "2 3 held ga st 4 : 0 1 0 0", "3 4 held ga st 90 : 0 1 0 0")
        self.assertEqual(lasts(book, "ga", [0], 3), 7)

    def test_to_the_day_ahead_of_the_end(self):
        book = self.book("1 3 told st 90 : 1 0 1 : 2 0 1", "2 8 made ca 0 : 7 st 1")
        self.assertEqual(lasts(book, "st", [1], 3), 7)
        self.assertEqual(lasts(book, "st", [2], 7), 7)
        self.refused(NoThing, lasts, book, "st", [1], 8, name="st")
        self.assertEqual(lasts(book, "ca", [7], 8), 93)
        self.refused(NoThing, lasts, book, "ca", [7], 7, name="ca")

    def test_down_a_line(self):
        texts = ("1 3 told st 9 : 1 0 1 : 2 0 1", "2 8 made ca 0 : 6 st 1 : 7 st 2")
        self.assertEqual(lasts(self.book(*texts), "ca", [6, 7], 8), 12)
        self.assertEqual(lasts(self.book(*texts, "3 9 told ca 6 : 7 0 1"), "ca", [7], 8), 15)
        self.assertEqual(lasts(self.book(*texts, "3 9 told ca 6 : 7 0 1"), "ca", [6, 7], 8), 12)
        self.assertEqual(lasts(self.book(*texts, "3 11 mended ca"), "ca", [6], 8), 10)
        self.assertIsNone(lasts(self.book(*texts, "3 7 mended st"), "ca", [6], 8))
        self.assertEqual(lasts(self.book(*texts, "3 10 made cb 0 : 1 ca 6"), "ca", [6], 8), 9)
        self.assertEqual(lasts(self.book(*texts, "3 10 made cb 0 : 1 ca 6"), "cb", [1], 10), 12)
        self.assertEqual(lasts(self.book(*texts, "3 10 made cb 0 : 1 ca 6", "4 11 mended cb"), "cb", [1], 10), 10)

    def test_days_that_lie_far_apart(self):
        last = 10 ** 6
        began = perf_counter()
        book = self.book("1 3 told st 1000000 : 1 0 1", "2 5 told st 999994 : 2 0 1", "3 1000000 told st 1000000 : 5 0 1")
        for spot, day, found in (([1], 3, last), ([1], last, last), ([2], 7, 999999), ([1, 2], 5, 999999), ([5], last, last),
                                 ([5], last - 1, None), ([2], last, None)):
            self.assertEqual(lasts(book, "st", spot, day), found, (spot, day))
        book = self.book("1 3 told st 1000000 : 1 0 1", "2 700000 mended st", "3 400000 off ru", "4 500000 harmed bl")
        self.assertEqual(lasts(book, "st", [1], 3), 699999)
        book = self.book("1 3 told st 1000000 : 1 0 1", "2 900000 made ca 0 : 7 st 1")
        self.assertEqual(lasts(book, "st", [1], 3), 899999)
        self.assertEqual(lasts(book, "ca", [7], 900000), last)
        self.assertLess(perf_counter() - began, 5)

    def test_a_term_that_ends_just_on_the_last_day(self):
        for term, found in ((999997, 10 ** 6), (999998, 10 ** 6), (999996, 999999)):
            self.assertEqual(lasts(self.book(f"1 3 told st {term} : 1 0 1"), "st", [1], 3), found)

    def test_refusals(self):
        self.spot_refused(lasts)

    def test_nothing_is_changed(self):
        book = self.book("1 3 told st 9 : 1 0 1")
        spot, ahead = [1], copy.deepcopy(words_of(book))
        self.assertEqual([lasts(book, "st", spot, 3), lasts(book, "st", spot, 3)], [12, 12])
        self.assertEqual((spot, words_of(book)), ([1], ahead))


class AsTheTellerTells(Base):

    def test_answers_and_lasting(self):
        seen = {}
        for seed in range(120):
            chance = Random(seed)
            papers = fitting_papers(chance, chance.randrange(25, 50)) if seed % 3 else some_papers(chance, 50)
            model, book = Teller(papers), Book()
            for one in papers:
                book.put(one)
            if all(model.many(model.reading(key), [], {}) <= 60 for key in book.readings()):
                for key in book.readings():
                    found = answer(book, key)
                    self.assertEqual(found, model.answer(key))
                    _, day, _, name, spot = book.paper(key)
                    reached = ends(book, name, spot, day, all_windows(book))
                    self.assertEqual(reached, found[1:] or None)
                    seen[found[0]] = seen.get(found[0], 0) + 1
            self.compare_lasting(chance, model, book, seen)
        self.assertGreater(min(seen.get(word, 0) for word in ("bare", "doubtful", "within", "apart")), 3, seen)
        self.assertGreater(min(seen.get(what, 0) for what in ("none", "some", "ended", "window")), 3, seen)

    def compare_lasting(self, chance, model, book, seen):
        for name, thing in model.things.items():
            for _ in range(4):
                day, spot = chance.randrange(LAST + 4), spot_of(chance, thing.marks)
                if not thing.has_on(day) or not thing.fits(spot):
                    continue
                if model.many(model.wanted(name, spot, day), [], {}) <= 20:
                    found = lasts(book, name, spot, day)
                    # Behind this day no term, of 30 days at most, and no break can end anything any more.
                    self.assertEqual(found, model.lasts(name, spot, day, LAST + 40))
                    if found is None:
                        what = "none"
                    elif found + 1 == thing.end:
                        what = "ended"
                    elif ends(book, name, spot, found + 1, []) is not None:
                        what = "window"
                    else:
                        what = "some"
                    seen[what] = seen.get(what, 0) + 1


class Time(Base):

    def test_chains_that_are_far_too_many_to_go_through(self):
        book = Book()
        for one in layered_papers(8):
            book.put(one)
        for one in ((900, 400, "read", "f", [1, 20, 40, 60, 80, 99]), (901, 900000, "read", "f", [50, 99]), (902, 500, "off", "c"),
                    (903, 6, "off", "a")):
            book.put(one)
        self.assertEqual(set(words_of(book).values()), {"stands"})
        began = perf_counter()
        for key in (900, 901):
            _, day, _, name, spot = book.paper(key)
            self.assertEqual(answer(book, key)[1:], ends(book, name, spot, day, all_windows(book)))
        self.assertEqual(lasts(book, "f", [1, 20, 40, 60, 80, 99], 400), 10 ** 6)
        book.put((904, 700000, "off", "f"))
        self.assertEqual([answer(book, key)[0] for key in (900, 901)], ["doubtful", "bare"])
        self.assertIsNone(lasts(book, "f", [1, 20, 40, 60, 80, 99], 400))
        self.assertEqual([row[1] for row in doubted(book, None)], ["doubtful", "bare"])
        self.assertEqual([row[1] for row in doubted(book, 902)], ["sure", "bare"])
        # Far more than is needed where each mark on a day is looked at once.
        self.assertLess(perf_counter() - began, 30)
