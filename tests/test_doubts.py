"""Promises 3, 4, 7, 28 and 29: the windows that off papers throw, and what is doubtful by them."""

import copy
from random import Random

from truechain.book import Book
from truechain.chains import chain, through, walk
from truechain.doubts import all_windows, doubted, windows
from truechain.ends import ends
from truechain.errors import NoOff, Wrong
from truechain.texts import read_paper
from tests.chance import fitting_papers, some_papers
from tests.helper import Case, Stubborn, book_of, junk, lists_in, own_each_time, places_refused, words_of
from tests.teller import Teller

ONE = (1, 1)
THINGS = (
    "101 0 thing st box 0 0 1,2,5",
    "102 3 thing ru scale 0 0 0,10",
    "103 0 thing ga scale 2 0 0,5,10",
    "104 1 thing bl box 1 0 1,2,3",
)


class Base(Case):

    def book(self, *texts):
        """A book of the things and more papers, all of which stand."""
        return self.standing(*THINGS, *texts)


class Windows(Base):

    def test_from_the_beginning_where_there_is_no_holding(self):
        book = self.book("1 9 off st", "2 9 off ru", "3 9 off bl")
        self.assertEqual(windows(book, 1), [("st", 1, 0, 9), ("st", 2, 0, 9), ("st", 5, 0, 9)])
        self.assertEqual(windows(book, 2), [("ru", 0, 3, 9), ("ru", 10, 3, 9)])
        self.assertEqual(windows(book, 3), [("bl", 1, 1, 9), ("bl", 2, 1, 9), ("bl", 3, 1, 9)])
        for key in (1, 2, 3):
            self.assertIs(type(windows(book, key)), list)
            self.assertEqual({type(window) for window in windows(book, key)}, {tuple})

    def test_from_behind_the_last_holding_of_each_mark(self):
        book = self.book("1 9 off st", "2 2 told st 0 : 1 0 0 : 2 0 0", "3 4 told st 90 : 1 0 0", "4 3 told st 90 : 1 0 0")
        self.assertEqual(windows(book, 1), [("st", 1, 5, 9), ("st", 2, 3, 9), ("st", 5, 0, 9)])
        book = self.book("1 9 off bl", "2 4 held bl ru 0 : 1 3,7 0 0", "3 2 held bl st 0 : 2 1 0 0 : 3 1 0 0",
                         "4 5 held ga bl 9 : 0 1,2,3 0 0", "5 6 held ga ru 9 : 0 0 0 0", "6 7 told st 9 : 1 0 0")
        self.assertEqual(windows(book, 1), [("bl", 1, 5, 9), ("bl", 2, 3, 9), ("bl", 3, 3, 9)])

    def test_holdings_on_the_own_day_and_behind_do_not_count(self):
        book = self.book("1 9 off st", "2 9 told st 90 : 1 0 0", "3 10 told st 90 : 2 0 0", "4 8 told st 90 : 5 0 0")
        self.assertEqual(windows(book, 1), [("st", 1, 0, 9), ("st", 2, 0, 9)])

    def test_windows_without_days_are_left_out(self):
        book = self.book("1 9 off st", "2 8 told st 0 : 1 0 0 : 5 0 0", "3 7 told st 0 : 2 0 0")
        self.assertEqual(windows(book, 1), [("st", 2, 8, 9)])
        book = self.book("1 9 off st", "2 8 told st 0 : 1 0 0 : 2 0 0 : 5 0 0")
        self.assertEqual(windows(book, 1), [])
        self.assertEqual(all_windows(book), [])
        self.assertEqual(windows(self.book("1 0 off st", "2 3 off ru"), 1), [])
        self.assertEqual(windows(self.book("1 0 off st", "2 3 off ru"), 2), [])

    def test_breaks_do_not_end_a_doubt(self):
        book = self.book("1 9 off st", "2 2 told st 90 : 1 0 0", "3 4 harmed st", "4 5 mended st", "5 6 off st")
        self.assertEqual(windows(book, 1), [("st", 1, 3, 9), ("st", 2, 0, 9), ("st", 5, 0, 9)])
        self.assertEqual(windows(book, 5), [("st", 1, 3, 6), ("st", 2, 0, 6), ("st", 5, 0, 6)])

    def test_up_to_the_last_day(self):
        book = self.book("1 1000000 off ru")
        self.assertEqual(windows(book, 1), [("ru", 0, 3, 10 ** 6), ("ru", 10, 3, 10 ** 6)])

    def test_down_to_the_elder(self):
        book = self.book("1 9 off ca", "2 5 made ca 0 : 4 st 1 : 7 st 5")
        self.assertEqual(windows(book, 1), [("ca", 4, 5, 9), ("ca", 7, 5, 9), ("st", 1, 0, 6), ("st", 5, 0, 6)])
        book = self.book("1 9 off ca", "2 5 made ca 0 : 4 st 1 : 7 st 5", "3 2 told st 0 : 1 0 0 : 2 0 0")
        self.assertEqual(windows(book, 1), [("ca", 4, 5, 9), ("ca", 7, 5, 9), ("st", 1, 3, 6), ("st", 5, 0, 6)])

    def test_the_elder_held_on_the_day_ahead_of_that_on_which_the_box_was_made(self):
        book = self.book("1 6 off ca", "2 5 made ca 0 : 4 st 1", "3 4 told st 0 : 1 0 0")
        self.assertEqual(windows(book, 1), [("ca", 4, 5, 6), ("st", 1, 5, 6)])

    def test_not_down_to_the_elder_where_there_is_an_own_holding(self):
        book = self.book("1 9 off ca", "2 5 made ca 0 : 4 st 1 : 7 st 5", "3 6 told ca 0 : 4 0 0")
        self.assertEqual(windows(book, 1), [("ca", 4, 7, 9), ("ca", 7, 5, 9), ("st", 5, 0, 6)])
        book = self.book("1 9 off ca", "2 5 made ca 0 : 4 st 1", "3 8 told ca 0 : 4 0 0")
        self.assertEqual(windows(book, 1), [])
        # On the day on which it was made, too; but not on the paper's own day.
        book = self.book("1 9 off ca", "2 5 made ca 0 : 4 st 1 : 7 st 5", "3 5 told ca 0 : 4 0 0", "4 9 told ca 0 : 7 0 0")
        self.assertEqual(windows(book, 1), [("ca", 4, 6, 9), ("ca", 7, 5, 9), ("st", 5, 0, 6)])

    def test_of_two_elders(self):
        book = self.standing("101 0 thing a box 0 0 1,2", "102 2 thing b box 0 0 1", "1 5 made ca 0 : 1 b 1 : 2 a 2 : 3 a 1",
                             "2 3 told a 9 : 1 0 0", "3 8 off ca", "4 4 told b 9 : 1 0 0")
        self.assertEqual(windows(book, 3), [
            ("a", 1, 4, 6), ("a", 2, 0, 6), ("b", 1, 5, 6), ("ca", 1, 5, 8), ("ca", 2, 5, 8), ("ca", 3, 5, 8)])

    def test_several_lines_deep(self):
        texts = ("101 0 thing a box 0 0 1,2", "1 3 made b 0 : 3 a 1 : 4 a 2", "2 6 made c 0 : 5 b 3 : 6 b 4",
                 "3 9 made d 0 : 7 c 5 : 8 c 6", "4 12 off d")
        book = self.standing(*texts)
        self.assertEqual(windows(book, 4), [
            ("a", 1, 0, 4), ("a", 2, 0, 4), ("b", 3, 3, 7), ("b", 4, 3, 7), ("c", 5, 6, 10), ("c", 6, 6, 10),
            ("d", 7, 9, 12), ("d", 8, 9, 12)])
        book = self.standing(*texts, "5 4 told b 0 : 3 0 0", "6 8 told c 0 : 6 0 0")
        self.assertEqual(windows(book, 4), [
            ("b", 3, 5, 7), ("c", 5, 6, 10), ("c", 6, 9, 10), ("d", 7, 9, 12), ("d", 8, 9, 12)])
        book = self.standing(*texts, "5 1 told a 0 : 1 0 0")
        self.assertEqual(windows(book, 4)[:2], [("a", 1, 2, 4), ("a", 2, 0, 4)])

    def test_an_off_paper_of_an_elder_says_nothing_of_the_box(self):
        book = self.book("1 4 off st", "2 5 made ca 0 : 4 st 1")
        self.assertEqual(windows(book, 1), [("st", 1, 0, 4), ("st", 2, 0, 4), ("st", 5, 0, 4)])

    def test_no_off(self):
        book = book_of(*THINGS, "1 4 off st", "2 4 off zz", "3 4 harmed st", "4 4 read bl 1", "5 2 off ru")
        self.assertEqual(words_of(book)[5], "lacking")
        for key in (2, 3, 4, 5, 6, 101, 10 ** 9):
            self.refused(NoOff, windows, book, key, key=key)
            self.refused(NoOff, doubted, book, key, key=key)
        self.assertEqual(len(windows(book, 1)), 3)


class AllWindows(Base):

    def test_sorted_each_once(self):
        book = self.book("9 4 off st", "3 4 off st", "1 4 off bl", "2 6 off st")
        self.assertEqual(windows(book, 9), windows(book, 3))
        self.assertEqual(all_windows(book), [
            ("bl", 1, 1, 4), ("bl", 2, 1, 4), ("bl", 3, 1, 4), ("st", 1, 0, 4), ("st", 1, 0, 6), ("st", 2, 0, 4),
            ("st", 2, 0, 6), ("st", 5, 0, 4), ("st", 5, 0, 6)])

    def test_two_boxes_of_the_same_line_throw_the_same(self):
        book = self.standing("101 0 thing a box 0 0 1", "1 3 made b 0 : 2 a 1", "2 5 off b", "3 6 off b", "4 7 made c 0 : 3 b 2",
                             "5 8 off c")
        self.assertEqual(all_windows(book), [("a", 1, 0, 4), ("b", 2, 3, 5), ("b", 2, 3, 6), ("b", 2, 3, 8), ("c", 3, 7, 8)])

    def test_none(self):
        self.assertEqual(all_windows(self.book()), [])
        self.assertEqual(all_windows(Book()), [])
        self.assertEqual(all_windows(book_of("1 4 off st")), [])

    def test_by_numbers_not_by_their_figures(self):
        book = self.standing("101 0 thing a scale 0 0 9,10", "1 11 off a", "2 9 off a", "3 100 off a")
        self.assertEqual(all_windows(book), [("a", mark, 0, day) for mark in (9, 10) for day in (9, 11, 100)])


class Doubted(Base):

    def two_ways(self, *texts):
        """A book in which ga 0 has a chain by st 1 on day 4 and ga 5 one by bl 1 on day 5, and this one by ru on day 4."""
        return self.book("1 2 told st 90 : 1 0 1", "2 3 told ru 90 : 0 0 1 : 10 10 11", "3 4 held ga st 90 : 0 1 0 0",
                         "4 4 held bl ru 90 : 1 5 0 0", "5 5 held ga bl 90 : 5 1 0 0", "10 8 read ga 0", "11 8 read ga 5",
                         "12 8 read ga 10", "13 7 read st 1", *texts)

    def test_bare_doubtful_and_sure(self):
        book = self.two_ways("20 6 off st", "21 6 off ru", "22 7 off bl")
        by_st = [(3, "ga", 0, 8, ONE), (1, "st", 1, 4, ONE)]
        by_bl = [(5, "ga", 5, 8, ONE), (4, "bl", 1, 5, ONE), (2, "ru", 0, 4, (1, 2)), (2, "ru", 10, 4, (1, 2))]
        bare, here = (12, "bare", None), (13, "bare", None)
        # st 1 is in doubt on days 3 to 5, ru on days 4 and 5, bl 1 on days 5 and 6.
        self.assertEqual(doubted(book, 20), [(10, "doubtful", by_st), (11, "sure", by_bl), bare, here])
        self.assertEqual(doubted(book, 21), [(10, "sure", by_st), (11, "doubtful", by_bl), bare, here])
        self.assertEqual(doubted(book, 22), [(10, "sure", by_st), (11, "doubtful", by_bl), bare, here])
        self.assertEqual(doubted(book, None), [(10, "doubtful", by_st), (11, "doubtful", by_bl), bare, here])
        self.assertIs(type(doubted(book, None)), list)

    def test_without_off_papers_all_that_have_chains_are_sure(self):
        book = self.two_ways()
        self.assertEqual([row[:2] for row in doubted(book, None)], [(10, "sure"), (11, "sure"), (12, "bare"), (13, "sure")])
        self.assertEqual(doubted(Book(), None), [])
        self.assertEqual(doubted(self.book("1 3 off st"), 1), [])

    def test_the_days_of_a_window(self):
        for texts, word in ((("20 4 off st",), "bare"), (("20 5 off st",), "doubtful"),
                            (("20 5 off st", "21 4 told st 0 : 1 0 1"), "sure"),
                            (("20 5 off st", "21 3 told st 0 : 1 0 1"), "doubtful")):
            book = self.two_ways(*texts)
            self.assertEqual(doubted(book, 20)[0][:2], (10, word), texts)
        # The reading's own mark, on its own day.
        for day, word in ((9, "doubtful"), (8, "bare"), (10, "doubtful")):
            self.assertEqual(doubted(self.two_ways(f"20 {day} off ga"), 20)[0][1], word)
        book = self.two_ways("20 9 off ga", "21 8 held ga st 0 : 0 1 0 0")
        self.assertEqual(doubted(book, 20)[0], (10, "sure", [(3, "ga", 0, 8, ONE), (1, "st", 1, 4, ONE)]))

    def test_sure_by_another_chain_than_the_best_of_all(self):
        book = self.book("1 2 told st 90 : 1 5 6", "2 3 told ru 90 : 0 0 9", "3 4 held ga st 90 : 0 1 0 0",
                         "4 4 held ga ru 90 : 0 0 0 0", "10 8 read ga 0", "20 6 off st", "21 6 off ru")
        by_st, by_ru = [(3, "ga", 0, 8, ONE), (1, "st", 1, 4, ONE)], [(4, "ga", 0, 8, ONE), (2, "ru", 0, 4, ONE)]
        self.assertEqual(doubted(book, 20), [(10, "sure", by_ru)])
        self.assertEqual(doubted(book, 21), [(10, "sure", by_st)])
        # All together: by the greatest low end of all chains.
        self.assertEqual(doubted(book, None), [(10, "doubtful", by_st)])

    def test_only_readings_that_stand(self):
        book = book_of(*THINGS, "1 2 told st 90 : 1 5 6", "10 8 read st 1", "11 8 read st 3", "12 8 read zz 1", "9 8 read st 1,2",
                       "20 6 off zz", "21 5 off st")
        self.assertEqual(doubted(book, 21), [(9, "bare", None), (10, "bare", None)])
        self.refused(NoOff, doubted, book, 20, key=20)

    def test_through_a_box_that_was_made(self):
        texts = ("1 2 told st 90 : 1 5 6", "3 4 held ga st 90 : 0 1 0 0", "5 5 made ca 0 : 7 st 1", "10 8 read ga 0")
        book = self.book(*texts, "20 9 off ca")
        # ca 7 was never held, and so st 1 is in doubt from day 3 on.
        self.assertEqual(doubted(book, 20), [(10, "doubtful", [(3, "ga", 0, 8, ONE), (1, "st", 1, 4, ONE)])])
        book = self.book(*texts, "20 9 off ca", "6 6 told ca 9 : 7 0 1")
        self.assertEqual([row[1] for row in doubted(book, 20)], ["sure"])


class AsTheTellerTells(Base):

    def test_windows_and_doubts(self):
        seen = {}
        for seed in range(150):
            chance = Random(seed)
            papers = fitting_papers(chance, chance.randrange(25, 50)) if seed % 3 else some_papers(chance, 50)
            if seed % 2:
                papers.extend((2000 + at, 9 + at, "off", name) for at, name in enumerate(("ga", "bl", "ru")))
            model, book = Teller(papers), Book()
            for one in papers:
                book.put(one)
            self.assertEqual(book.offs(), model.standing("off"))
            together = []
            for key in book.offs():
                found = windows(book, key)
                self.assertEqual(found, sorted(found))
                self.assertEqual({first < behind for _, _, first, behind in found} - {True}, set())
                days = [(name, mark, day) for name, mark, first, behind in found for day in range(first, behind)]
                self.assertEqual(len(days), len(set(days)))
                self.assertEqual(set(days), model.doubt_days(key))
                together.extend(found)
            self.assertEqual(all_windows(book), sorted(set(together)))
            if all(model.many(model.reading(key), [], {}) <= 60 for key in book.readings()):
                self.compare(book, model, seen)
        self.assertGreater(min(seen.get(what, 0) for what in ("bare", "doubtful", "sure", "sure through")), 3, seen)

    def compare(self, book, model, seen):
        for key in [None] + book.offs():
            shut = all_windows(book) if key is None else windows(book, key)
            found = doubted(book, key)
            self.assertEqual(found, model.doubted(key))
            for reading, word, rows in found:
                _, day, _, name, spot = book.paper(reading)
                if word == "sure":
                    self.assertEqual(through(rows, shut), [])
                    self.assertEqual(rows, chain(book, name, spot, day, shut, "low"))
                    seen["sure through"] = seen.get("sure through", 0) + (rows != chain(book, name, spot, day, [], "low"))
                elif word == "doubtful":
                    self.assertNotEqual(through(rows, shut), [])
                    self.assertIsNone(ends(book, name, spot, day, shut))
                    walk(book, name, spot, day, rows)
                seen[word] = seen.get(word, 0) + 1


class Refusals(Base):

    def test_wrong(self):
        book = self.book("1 4 off st")
        bad = [thing for thing in junk() if thing is not None]
        places_refused(self, windows, [book, 1], bad, Wrong)
        places_refused(self, all_windows, [book], junk(), Wrong)
        places_refused(self, doubted, [book, 1], bad, Wrong)
        for key in (None, 0, -1, 10 ** 9 + 1, True, "1", (1,), Stubborn()):
            self.refused(Wrong, windows, book, key, at=1)
            self.refused(Wrong, windows, None, key, at=0)
            if key is not None:
                self.refused(Wrong, doubted, book, key, at=1)
        self.refused(Wrong, doubted, Book, None, at=0)


class Own(Base):

    def test_each_list_is_new_and_nothing_is_changed(self):
        book = self.book("1 2 told st 90 : 1 5 6", "10 8 read st 1", "11 8 read st 1", "12 8 read bl 1",
                         "20 9 off st", "21 9 off st")
        ahead = copy.deepcopy((words_of(book), [book.paper(key) for key in book.kept()]))
        for ask in (lambda: windows(book, 20), lambda: all_windows(book), lambda: doubted(book, 20),
                    lambda: doubted(book, None)):
            own_each_time(self, ask)
        self.assertEqual(len(lists_in(doubted(book, 20))), 3)
        self.assertEqual((words_of(book), [book.paper(key) for key in book.kept()]), ahead)

    def test_a_book_that_goes_on(self):
        book = self.book("1 2 told st 90 : 1 5 6", "10 8 read st 1", "20 9 off st")
        self.assertEqual(windows(book, 20)[0], ("st", 1, 3, 9))
        self.assertEqual([row[1] for row in doubted(book, None)], ["doubtful"])
        book.put(read_paper("2 8 told st 0 : 1 0 1"))
        self.assertEqual([row[1] for row in doubted(book, None)], ["sure"])
        book.strike(1)
        self.assertEqual(windows(book, 20), [("st", 2, 0, 9), ("st", 5, 0, 9)])
        book.strike(20)
        self.assertEqual(all_windows(book), [])
        self.refused(NoOff, windows, book, 20, key=20)
