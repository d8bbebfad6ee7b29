"""Promises 3, 4, 6, 22 to 26: chains told row by row, their widths, and walks of whatever rows."""

import copy
from random import Random
from time import perf_counter

from truechain.book import Book
from truechain.chains import chain, nearest, through, walk
from truechain.ends import ends
from truechain.errors import NoChain, NoSpot, NoThing, Wrong
from truechain.links import links, mix_at
from truechain.stretches import width
from tests.chance import LAST, fitting_papers, layered_papers, spot_of, some_papers, some_windows
from tests.helper import Case, Stubborn, own_each_time, words_of
from tests.model import Model
from tests.teller import Teller

THINGS = (
    "101 0 thing st box 0 0 1,2,5",
    "102 0 thing ru scale 0 0 0,10",
    "103 0 thing ga scale 2 0 0,5,10",
    "104 0 thing bl box 1 0 1,2,3",
)
BYS = ("low", "high", "near")
ONE = (1, 1)


class Base(Case):

    def book(self, *texts):
        """A book of the things and more papers, all of which stand."""
        return self.standing(*THINGS, *texts)

    def same_by_all(self, book, name, spot, day, rows):
        """Check that the told chain is this one by each of the words."""
        for by in BYS:
            self.assertEqual(chain(book, name, spot, day, [], by), rows, by)


class Rows(Base):

    def test_a_told_link(self):
        book = self.book("1 3 told st 9 : 1 1/2 3/2 : 5 5 6")
        self.same_by_all(book, "st", [1], 7, [(1, "st", 1, 7, ONE)])
        self.same_by_all(book, "st", [1, 5], 3, [(1, "st", 1, 3, ONE), (1, "st", 5, 3, ONE)])
        rows = chain(book, "st", [1], 7, [], "low")
        self.assertIs(type(rows), list)
        self.assertEqual([type(row) for row in rows], [tuple])

    def test_between_marks(self):
        book = self.book("7 3 told ru 9 : 0 -1 1 : 10 9 12")
        self.same_by_all(book, "ru", [1, 1, 1], 3, [(7, "ru", 0, 3, (27, 10)), (7, "ru", 10, 3, (3, 10))])

    def test_a_held_link_is_followed_by_its_parts(self):
        book = self.book("1 1 told st 90 : 1 1 2 : 5 5 5", "2 2 held bl st 90 : 1 1,5 1/2 1/4",
                         "3 3 held ga bl 90 : 0 1 -1 1/8")
        self.same_by_all(book, "ga", [0], 9, [
            (3, "ga", 0, 9, ONE), (2, "bl", 1, 3, ONE), (1, "st", 1, 2, ONE), (1, "st", 5, 2, ONE)])

    def test_wanted_twice_on_one_day(self):
        book = self.book("1 1 told st 90 : 1 1 2", "2 2 held bl st 90 : 1 1 0 1/4 : 2 1 0 1/2")
        self.same_by_all(book, "bl", [1, 2], 3, [(2, "bl", 1, 3, ONE), (2, "bl", 2, 3, ONE), (1, "st", 1, 2, (2, 1))])

    def test_wanted_on_two_days(self):
        book = self.book("1 1 told st 90 : 1 1 2", "2 4 held bl st 90 : 1 1 0 0", "3 2 held bl st 90 : 2 1 0 0")
        self.same_by_all(book, "bl", [1, 2], 5, [
            (2, "bl", 1, 5, ONE), (3, "bl", 2, 5, ONE), (1, "st", 1, 2, ONE), (1, "st", 1, 4, ONE)])

    def test_wanted_twice_on_one_day_by_links_of_unlike_levels(self):
        book = self.book("1 1 told st 90 : 1 1 2 : 2 2 2", "2 2 held bl st 90 : 1 1,2 0 0", "3 2 held ga st 90 : 0 1 0 0",
                         "4 3 held ga bl 90 : 5 1 0 0")
        # Half of ga 0 and half of ga 5 want st 1 on day 2, both of them: straight, and by bl 1.
        self.same_by_all(book, "ga", [1, 4], 5, [
            (3, "ga", 0, 5, ONE), (4, "ga", 5, 5, ONE), (2, "bl", 1, 3, ONE), (1, "st", 1, 2, (2, 1)), (1, "st", 2, 2, ONE)])

    def test_what_is_paid_first(self):
        book = self.book(
            "1 1 told st 90 : 1 1 1 : 2 2 2 : 5 5 5", "2 1 told ru 90 : 0 0 0 : 10 10 10",
            "3 2 held bl st 90 : 1 5 0 0 : 2 1,2 0 0", "4 4 held bl st 90 : 3 1,5 0 0",
            "5 5 held ga bl 90 : 0 1,3 0 0 : 5 2 0 0", "6 6 held ga ru 90 : 10 3 0 0")
        self.same_by_all(book, "ga", [1, 7], 9, [
            (5, "ga", 0, 9, (4, 5)), (5, "ga", 5, 9, (4, 5)), (6, "ga", 10, 9, (2, 5)),
            (3, "bl", 1, 5, (4, 5)), (3, "bl", 2, 5, (4, 5)), (4, "bl", 3, 5, (4, 5)),
            (2, "ru", 0, 6, (7, 25)), (2, "ru", 10, 6, (3, 25)),
            (1, "st", 1, 2, (4, 5)), (1, "st", 2, 2, (4, 5)), (1, "st", 5, 2, (4, 5)),
            (1, "st", 1, 4, (4, 5)), (1, "st", 5, 4, (4, 5))])

    def test_of_one_level_the_name_goes_ahead_of_the_day_and_this_ahead_of_the_mark(self):
        book = self.standing(
            "101 0 thing b box 0 0 1,2", "102 0 thing a box 0 0 7", "103 0 thing up box 5 0 1,2,3,4",
            "1 0 told b 90 : 1 0 0 : 2 0 0", "2 0 told a 90 : 7 0 0", "3 2 held up b 90 : 1 2 0 0", "4 3 held up b 90 : 2 1 0 0",
            "5 4 held up a 90 : 3 7 0 0", "6 3 held up b 90 : 4 2 0 0")
        self.same_by_all(book, "up", [1, 2, 3, 4], 5, [
            (3, "up", 1, 5, ONE), (4, "up", 2, 5, ONE), (5, "up", 3, 5, ONE), (6, "up", 4, 5, ONE),
            (2, "a", 7, 4, ONE), (1, "b", 2, 2, ONE), (1, "b", 1, 3, ONE), (1, "b", 2, 3, ONE)])

    def test_a_lesser_level_comes_last_whatever_its_name_and_day(self):
        book = self.standing(
            "101 0 thing a box 0 0 1", "102 0 thing z box 1 0 1", "103 0 thing m box 2 0 1,2", "1 0 told a 90 : 1 0 0",
            "2 1 held m a 90 : 1 1 0 0", "3 9 held z a 90 : 1 1 0 0", "4 9 held m z 90 : 2 1 0 0")
        self.same_by_all(book, "m", [1, 2], 9, [
            (2, "m", 1, 9, ONE), (4, "m", 2, 9, ONE), (3, "z", 1, 9, ONE), (1, "a", 1, 1, ONE), (1, "a", 1, 9, ONE)])

    def test_down_a_line(self):
        book = self.book("1 1 told st 90 : 1 1 2", "2 2 held bl st 90 : 1 1 0 1", "3 5 made ca 1 : 7 bl 1 : 8 bl 2",
                         "4 6 held ga ca 90 : 0 7 0 0")
        self.same_by_all(book, "ga", [0], 7, [(4, "ga", 0, 7, ONE), (2, "ca", 7, 6, ONE), (1, "st", 1, 2, ONE)])
        self.assertEqual(walk(book, "ga", [0], 7, chain(book, "ga", [0], 7, [], "low")), ((-1, 1), (4, 1)))


class Best(Base):

    def three(self):
        """A book in which three papers tell of st 1, each the best one by another word."""
        return self.book("3 1 told st 90 : 1 5 20", "1 1 told st 90 : 1 0 6", "2 1 told st 90 : 1 3 8")

    def test_by_each_word(self):
        book = self.three()
        for by, key in (("low", 3), ("high", 1), ("near", 2)):
            self.assertEqual(chain(book, "st", [1], 1, [], by), [(key, "st", 1, 1, ONE)])
        self.assertEqual(nearest(book, "st", [1], 1, []), (5, 1))
        self.assertEqual(width(walk(book, "st", [1], 1, chain(book, "st", [1], 1, [], "low"))), (15, 1))
        self.assertEqual(width(walk(book, "st", [1], 1, chain(book, "st", [1], 1, [], "high"))), (6, 1))

    def test_of_those_that_reach_the_same_the_least_key(self):
        for first, second, third in ((1, 2, 3), (3, 2, 1), (2, 3, 1), (2, 1, 3), (30, 4, 12)):
            book = self.book(f"{first} 1 told st 90 : 1 0 9", f"{second} 1 told st 90 : 1 0 9",
                             f"{third} 1 told st 90 : 1 0 9")
            self.same_by_all(book, "st", [1], 1, [(min(first, second, third), "st", 1, 1, ONE)])

    def test_the_same_end_with_another_width(self):
        book = self.book("2 1 told st 90 : 1 0 9", "1 1 told st 90 : 1 0 10", "3 1 told st 90 : 1 -1 9")
        for by, key in (("low", 1), ("high", 2), ("near", 2)):
            self.assertEqual(chain(book, "st", [1], 1, [], by), [(key, "st", 1, 1, ONE)])
        book = self.book("5 1 told st 90 : 1 1 10", "2 1 told st 90 : 1 0 9", "3 1 told st 90 : 1 2 11")
        self.assertEqual(chain(book, "st", [1], 1, [], "near"), [(2, "st", 1, 1, ONE)])

    def test_the_least_key_where_unlike_links_reach_the_same_by_their_parts(self):
        book = self.book("1 1 told st 90 : 1 0 1 : 2 3 4", "8 2 held bl st 90 : 1 1 3 0", "9 2 held bl st 90 : 1 2 0 0")
        rows = [(8, "bl", 1, 5, ONE), (1, "st", 1, 2, ONE)]
        self.same_by_all(book, "bl", [1], 5, rows)
        book = self.book("1 1 told st 90 : 1 0 1 : 2 3 4", "9 2 held bl st 90 : 1 1 3 0", "8 2 held bl st 90 : 1 2 0 0")
        self.same_by_all(book, "bl", [1], 5, [(8, "bl", 1, 5, ONE), (1, "st", 2, 2, ONE)])

    def test_a_wide_link_may_have_narrow_parts(self):
        book = self.book("1 1 told st 90 : 1 0 9 : 2 2 2", "2 2 held bl st 90 : 1 1 0 0", "3 2 held bl st 90 : 1 2 0 1")
        self.same_by_all(book, "bl", [1], 5, [(3, "bl", 1, 5, ONE), (1, "st", 2, 2, ONE)])
        self.assertEqual(nearest(book, "bl", [1], 5, []), (2, 1))

    def test_each_mark_by_a_link_of_its_own(self):
        book = self.book("1 3 told st 9 : 1 0 9 : 2 5 6", "2 3 told st 9 : 1 1 2 : 2 0 9")
        self.same_by_all(book, "st", [1, 2], 3, [(2, "st", 1, 3, ONE), (1, "st", 2, 3, ONE)])
        book = self.book("1 3 told st 9 : 1 0 2 : 2 5 8", "2 3 told st 9 : 1 1 4 : 2 0 6")
        for by, first, second in (("low", 2, 1), ("high", 1, 2), ("near", 1, 1)):
            self.assertEqual(chain(book, "st", [1, 2], 3, [], by), [(first, "st", 1, 3, ONE), (second, "st", 2, 3, ONE)])

    def test_the_nearest_is_neither_that_of_the_greatest_low_end_nor_of_the_least_high_end(self):
        book = self.book("1 1 told st 90 : 1 0 4", "2 1 told ru 90 : 0 0 4", "3 2 held ga st 90 : 0 1 5 5",
                         "4 2 held ga ru 90 : 0 0 0 2", "5 2 held ga st 90 : 0 1 -5 3")
        # By 3: from 0 to 14; by 4: from -2 to 6; by 5: from -8 to 2.
        for by, rows in (("low", [(3, "ga", 0, 2, ONE), (1, "st", 1, 2, ONE)]),
                         ("near", [(4, "ga", 0, 2, ONE), (2, "ru", 0, 2, ONE)]),
                         ("high", [(5, "ga", 0, 2, ONE), (1, "st", 1, 2, ONE)])):
            self.assertEqual(chain(book, "ga", [0], 2, [], by), rows)
        self.assertEqual(nearest(book, "ga", [0], 2, []), (8, 1))

    def test_shut_windows(self):
        book = self.three()
        for by in BYS:
            self.assertIsNone(chain(book, "st", [1], 1, [("st", 1, 1, 2)], by))
            self.assertIsNotNone(chain(book, "st", [1], 1, [("st", 1, 0, 1), ("st", 1, 2, 9), ("st", 1, 1, 1)], by))
        self.assertIsNone(nearest(book, "st", [1], 1, [("st", 1, 1, 2)]))
        book = self.book("1 1 told st 90 : 1 0 4", "2 1 told ru 90 : 0 1 3", "3 2 held ga st 90 : 0 1 0 0",
                         "4 3 held ga ru 90 : 0 0 0 0")
        for shut, key, found in (([], 4, (2, 1)), ([("ru", 0, 3, 4)], 3, (4, 1)), ([("ru", 0, 2, 3)], 4, (2, 1)),
                                 ([("st", 1, 2, 3)], 4, (2, 1)), ([("ru", 0, 3, 4)] * 1000, 3, (4, 1))):
            for by in BYS:
                self.assertEqual(chain(book, "ga", [0], 9, shut, by)[0][0], key)
            self.assertEqual(nearest(book, "ga", [0], 9, shut), found)
        self.assertIsNone(nearest(book, "ga", [0], 9, [("ru", 0, 3, 4), ("st", 1, 2, 3)]))
        self.assertIsNone(chain(book, "ga", [0], 9, [("ru", 0, 3, 4), ("st", 1, 2, 3)], "near"))

    def test_none_where_there_is_no_chain(self):
        book = self.book("2 2 held bl st 90 : 1 1,5 0 0", "1 1 told st 90 : 1 0 0")
        for name, spot, day in (("bl", [1], 5), ("bl", [2], 5), ("st", [1, 5], 5), ("st", [1], 0), ("ga", [7], 5)):
            for by in BYS:
                self.assertIsNone(chain(book, name, spot, day, [], by))
            self.assertIsNone(nearest(book, name, spot, day, []))

    def test_crossed_ends_do_not_matter(self):
        book = self.book("1 1 told st 90 : 1 0 1", "2 1 told st 90 : 1 4 5")
        self.assertEqual(nearest(book, "st", [1], 1, []), (1, 1))
        self.assertEqual(chain(book, "st", [1], 1, [], "low"), [(2, "st", 1, 1, ONE)])
        self.assertEqual(chain(book, "st", [1], 1, [], "high"), [(1, "st", 1, 1, ONE)])


class AsTheTellerTells(Base):

    def test_chains_widths_and_ends(self):
        seen = {}
        for seed in range(100):
            chance = Random(seed)
            papers = fitting_papers(chance, chance.randrange(25, 45)) if seed % 4 else some_papers(chance, 45)
            model, book = Teller(papers), Book()
            for one in papers:
                book.put(one)
            for name, thing in model.things.items():
                for _ in range(4):
                    day, spot = chance.randrange(LAST + 4), spot_of(chance, thing.marks)
                    if thing.has_on(day) and thing.fits(spot):
                        parts = model.wanted(name, spot, day)
                        if model.many(parts, [], {}) <= 100:
                            self.compare(book, model, parts, (name, spot, day, some_windows(chance, model)), seen)
        self.assertGreater(min(seen.get(many, 0) for many in (0, 1, 2, 3, 4, 5, 6, "unlike")), 12, seen)

    def compare(self, book, model, parts, asked, seen):
        shut = asked[3]
        found = {by: chain(book, *asked, by) for by in BYS}
        for by in BYS:
            self.assertEqual(found[by], model.chain(parts, shut, by))
            seen[min(len(found[by] or ()), 6)] = seen.get(min(len(found[by] or ()), 6), 0) + 1
            if found[by] is not None:
                self.assertEqual(through(found[by], shut), [])
        self.assertEqual(nearest(book, *asked), model.nearest(parts, shut))
        if found["near"] is None:
            self.assertIsNone(ends(book, *asked))
            return
        self.assertEqual(width(walk(book, *asked[:3], found["near"])), nearest(book, *asked))
        self.assertEqual(walk(book, *asked[:3], found["low"])[0], ends(book, *asked)[0])
        self.assertEqual(walk(book, *asked[:3], found["high"])[1], ends(book, *asked)[1])
        if found["near"] not in (found["low"], found["high"]):
            seen["unlike"] = seen.get("unlike", 0) + 1


class Refusals(Base):

    def test_chain(self):
        self.spot_refused(chain, [("st", 1, 0, 1)], "low")
        self.windows_refused(chain, "near")
        book = self.book("1 1 told st 90 : 1 0 1")
        for by in ("", "LOW", "lo", "lower", "far", "low ", None, 1, True, ["low"], ("low",), b"low", Stubborn(), {"low": 1}):
            self.refused(Wrong, chain, book, "aa", [9], 1, [], by, at=5)
            self.refused(Wrong, chain, book, "aa", [9], 1, [None], by, at=4)

    def test_nearest(self):
        self.spot_refused(nearest, [("st", 1, 0, 1)])
        self.windows_refused(nearest)

    def test_walk(self):
        self.spot_refused(walk, [(1, "st", 1, 0, ONE)])
        book = self.book("1 1 told st 90 : 1 0 1")
        for rows in ((), ((1, "st", 1, 1, ONE),), None, "", {}, 1, True, [(1, "st", 1, 1, ONE)] * 1001, [None] * 1001, Stubborn()):
            self.refused(Wrong, walk, book, "aa", [9], 1, rows, at=4)
        for rows in ([], [None], [Stubborn()] * 1000):
            self.refused(NoThing, walk, book, "aa", [9], 1, rows, name="aa")
            self.refused(NoSpot, walk, book, "st", [9], 1, rows)
            self.refused(NoChain, walk, book, "st", [1], 1, rows, at=0)


class Own(Base):

    def test_each_list_is_new_and_nothing_is_changed(self):
        book = self.book("1 1 told st 90 : 1 1 2", "2 2 held bl st 90 : 1 1 0 1/4 : 2 1 0 1/2")
        spot, shut = [1, 2], [("st", 1, 0, 1)]
        ahead = copy.deepcopy((spot, shut, words_of(book), links(book, "bl", 1, 3), mix_at(book, "bl", spot)))
        for by in BYS:
            own_each_time(self, lambda by=by: chain(book, "bl", spot, 3, shut, by))
        rows = chain(book, "bl", spot, 3, shut, "low")
        held = copy.deepcopy(rows)
        self.assertEqual(walk(book, "bl", spot, 3, rows), walk(book, "bl", spot, 3, rows))
        own_each_time(self, lambda: through(rows, [("st", 1, 2, 3)]))
        nearest(book, "bl", spot, 3, shut)
        self.assertEqual(rows, held)
        self.assertEqual((spot, shut, words_of(book), links(book, "bl", 1, 3), mix_at(book, "bl", spot)), ahead)

    def test_a_book_that_goes_on(self):
        book = self.book("1 1 told st 90 : 1 1 4")
        self.assertEqual(nearest(book, "st", [1], 5, []), (3, 1))
        rows = chain(book, "st", [1], 5, [], "near")
        book.put((2, 2, "told", "st", 90, [(1, (2, 1), (3, 1))]))
        self.assertEqual(nearest(book, "st", [1], 5, []), (1, 1))
        self.assertEqual(chain(book, "st", [1], 5, [], "near"), [(2, "st", 1, 5, ONE)])
        self.assertEqual(walk(book, "st", [1], 5, rows), ((1, 1), (4, 1)))
        book.strike(1)
        self.refused(NoChain, walk, book, "st", [1], 5, rows, at=0)


class Time(Base):

    def test_chains_that_are_far_too_many_to_go_through(self):
        book, marks = Book(), [0, 3, 10, 17, 31, 50, 77, 100]
        for one in layered_papers(9):
            book.put(one)
        self.assertEqual(set(words_of(book).values()), {"stands"})
        model = Model([book.paper(key) for key in book.kept()])
        self.assertGreater(model.many([((1, 1), "f", mark, 5000) for mark in marks], [], {}), 10 ** 100)
        asked = ("f", [1, 20, 40, 60, 80, 99], 5000)
        began = perf_counter()
        for shut in ([], [("c", 3, 0, 9)], [("c", 3, 0, 9), ("a", 0, 0, 7)]):
            found = {by: chain(book, *asked, shut, by) for by in BYS}
            reached = ends(book, *asked, shut)
            self.assertEqual(walk(book, *asked, found["low"])[0], reached[0])
            self.assertEqual(walk(book, *asked, found["high"])[1], reached[1])
            self.assertEqual(width(walk(book, *asked, found["near"])), nearest(book, *asked, shut))
            for by in BYS:
                self.assertEqual(through(found[by], shut), [])
                self.assertEqual(len({row[1:4] for row in found[by]}), len(found[by]))
        # Far more than is needed where each mark on a day is looked at once.
        self.assertLess(perf_counter() - began, 30)
