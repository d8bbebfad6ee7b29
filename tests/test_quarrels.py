"""Promises 3, 4, 6, 23 and 27: chains that quarrel, and all marks on days at which chains do."""

import copy
from fractions import Fraction
from random import Random
from time import perf_counter

from truechain.book import Book
from truechain.chains import chain, walk
from truechain.ends import ends
from truechain.quarrels import quarrel, quarrels
from tests.chance import LAST, fitting_papers, spot_of, some_windows
from tests.helper import Case, lists_in, own_each_time, words_of
from tests.teller import Teller

ONE = (1, 1)
THINGS = (
    "101 0 thing st box 0 0 1,2,5",
    "102 0 thing ru scale 0 0 0,10",
    "103 0 thing ga scale 2 0 0,5,10",
    "104 0 thing bl box 1 0 1,2,3",
)


class Base(Case):

    def book(self, *texts):
        """A book of the things and more papers, all of which stand."""
        return self.standing(*THINGS, *texts)


class Quarrel(Base):

    def test_crossed_at_the_asked_spot(self):
        book = self.book("1 1 told st 90 : 1 0 1", "2 1 told st 90 : 1 2 3", "3 1 told st 90 : 1 0 3")
        self.assertEqual(quarrel(book, "st", [1], 4, []), ([(2, "st", 1, 4, ONE)], [(1, "st", 1, 4, ONE)]))
        self.assertEqual(quarrels(book, "st", [1], 4, []), [("st", 1, 4)])
        self.assertIs(type(quarrel(book, "st", [1], 4, [])), tuple)

    def test_just_meeting_is_no_quarrel(self):
        book = self.book("1 1 told st 90 : 1 0 1", "2 1 told st 90 : 1 1 3")
        self.assertIsNone(quarrel(book, "st", [1], 4, []))
        self.assertEqual(quarrels(book, "st", [1], 4, []), [])
        book = self.book("1 1 told st 90 : 1 0 1", "2 1 told st 90 : 1 1001/1000 3")
        self.assertIsNotNone(quarrel(book, "st", [1], 4, []))

    def test_no_chain_is_no_quarrel(self):
        book = self.book("1 1 told st 90 : 1 0 1", "2 1 told st 90 : 1 2 3")
        for spot, day in (([2], 4), ([1, 2], 4), ([1], 0)):
            self.assertIsNone(quarrel(book, "st", spot, day, []))
            self.assertEqual(quarrels(book, "st", spot, day, []), [])

    def test_crossed_at_a_mark_beneath_alone(self):
        book = self.book("1 1 told st 90 : 1 0 1", "2 1 told st 90 : 1 2 3", "3 2 held bl st 90 : 1 1 0 1/2 : 2 1 0 1/4")
        # From 2 - 1/2 to 1 + 1/2, and from 2 - 1/4 to 1 + 1/4.
        self.assertIsNone(quarrel(book, "bl", [1], 5, []))
        self.assertEqual(quarrels(book, "bl", [1], 5, []), [("st", 1, 2)])
        self.assertEqual(quarrel(book, "bl", [2], 5, []),
                         ([(3, "bl", 2, 5, ONE), (2, "st", 1, 2, ONE)], [(3, "bl", 2, 5, ONE), (1, "st", 1, 2, ONE)]))
        self.assertEqual(quarrels(book, "bl", [2], 5, []), [("bl", 2, 5), ("st", 1, 2)])
        self.assertEqual(quarrels(book, "bl", [1, 2], 5, []), [("bl", 2, 5), ("st", 1, 2)])

    def test_crossed_at_one_mark_of_a_spot_that_is_not(self):
        book = self.book("1 1 told st 90 : 1 0 1 : 2 0 9", "2 1 told st 90 : 1 2 3")
        self.assertIsNone(quarrel(book, "st", [1, 2], 4, []))
        self.assertEqual(quarrels(book, "st", [1, 2], 4, []), [("st", 1, 4)])

    def test_nowhere(self):
        book = self.book("1 1 told st 90 : 1 0 2", "2 1 told st 90 : 1 1 3", "3 2 held bl st 90 : 1 1 0 1/2")
        self.assertIsNone(quarrel(book, "bl", [1], 5, []))
        self.assertEqual(quarrels(book, "bl", [1], 5, []), [])

    def test_marks_that_no_chain_has_are_not_told(self):
        texts = ("1 1 told st 90 : 1 0 1", "2 1 told st 90 : 1 2 3", "3 2 held bl st 90 : 1 1,2 0 0",
                 "4 2 held bl st 90 : 1 5 0 0", "5 1 told st 90 : 5 0 0")
        # bl 1 has a link by st 1 and st 2, but st 2 has none.
        book = self.book(*texts)
        self.assertEqual(quarrels(book, "bl", [1], 5, []), [])
        book = self.book(*texts, "6 1 told st 90 : 2 7 7")
        self.assertEqual(quarrels(book, "bl", [1], 5, []), [("bl", 1, 5), ("st", 1, 2)])
        self.assertEqual(quarrels(book, "bl", [1], 5, [("st", 2, 2, 3)]), [])
        # The whole spot has no chain.
        self.assertEqual(quarrels(book, "bl", [1, 2], 5, []), [])

    def test_a_mark_that_is_wanted_on_two_days(self):
        book = self.book("1 1 told st 90 : 1 0 1", "2 4 told st 90 : 1 2 3", "3 2 held bl st 90 : 1 1 0 0",
                         "4 5 held bl st 90 : 2 1 0 0")
        self.assertEqual(quarrels(book, "bl", [1, 2], 5, []), [("bl", 2, 5), ("st", 1, 5)])

    def test_their_order(self):
        book = self.standing(
            "101 0 thing b box 0 0 1,2", "102 0 thing a box 0 0 7", "103 0 thing up box 5 0 1,2,3,4", "104 0 thing zz box 1 0 9",
            "1 0 told b 90 : 1 0 0 : 2 0 0", "2 0 told b 90 : 1 1 1 : 2 1 1", "3 0 told a 90 : 7 0 0", "4 0 told a 90 : 7 1 1",
            "5 2 held up b 90 : 1 2 0 0", "6 3 held up b 90 : 2 1 0 1 : 4 2 0 0", "7 4 held up zz 90 : 3 9 0 0",
            "8 1 held zz a 90 : 9 7 0 0")
        self.assertEqual(quarrels(book, "up", [1, 2, 3, 4], 5, []), [
            ("up", 1, 5), ("up", 3, 5), ("up", 4, 5), ("zz", 9, 4),
            ("a", 7, 1), ("b", 2, 2), ("b", 1, 3), ("b", 2, 3)])

    def test_windows(self):
        book = self.book("1 1 told st 90 : 1 0 1", "2 1 told ru 90 : 0 2 3", "3 2 held bl st 90 : 1 1 0 0",
                         "4 2 held bl ru 90 : 1 0 0 0", "5 3 held ga bl 90 : 0 1 0 1")
        self.assertEqual(quarrels(book, "ga", [0], 5, []), [("bl", 1, 3)])
        self.assertEqual(quarrels(book, "bl", [1], 3, []), [("bl", 1, 3)])
        self.assertIsNotNone(quarrel(book, "bl", [1], 3, []))
        for window in (("st", 1, 2, 3), ("ru", 0, 2, 3), ("bl", 1, 3, 4)):
            self.assertEqual(quarrels(book, "ga", [0], 5, [window]), [])
            self.assertEqual(quarrels(book, "bl", [1], 3, [window]), [])
            self.assertIsNone(quarrel(book, "bl", [1], 3, [window]))
        for window in (("st", 1, 2, 2), ("ru", 0, 3, 9), ("bl", 1, 4, 9), ("zz", 1, 0, 9)):
            self.assertEqual(quarrels(book, "ga", [0], 5, [window]), [("bl", 1, 3)])
            self.assertIsNotNone(quarrel(book, "bl", [1], 3, [window]))


class AsTheTellerTells(Base):

    def test_it(self):
        seen = {}
        for seed in range(150):
            chance = Random(seed)
            papers = fitting_papers(chance, chance.randrange(25, 45))
            model, book = Teller(papers), Book()
            for one in papers:
                book.put(one)
            for name, thing in model.things.items():
                for _ in range(4):
                    day, spot = chance.randrange(LAST + 4), spot_of(chance, thing.marks)
                    if thing.has_on(day) and thing.fits(spot):
                        parts, shut = model.wanted(name, spot, day), some_windows(chance, model)
                        if model.many(parts, [], {}) <= 100:
                            self.compare(book, model, parts, (name, spot, day, shut), seen)
        self.assertGreater(min(seen.get(what, 0) for what in (0, 1, 2, "quarrel", "beneath alone")), 3, seen)

    def compare(self, book, model, parts, asked, seen):
        found = quarrels(book, *asked)
        self.assertEqual(found, model.quarrels(parts, asked[3]))
        reached = ends(book, *asked)
        is_crossed = reached is not None and Fraction(*reached[0]) > Fraction(*reached[1])
        two = quarrel(book, *asked)
        if is_crossed:
            self.assertEqual(two, (chain(book, *asked, "low"), chain(book, *asked, "high")))
            low, high = walk(book, *asked[:3], two[0])[0], walk(book, *asked[:3], two[1])[1]
            self.assertEqual((low, high), reached)
        else:
            self.assertIsNone(two)
        for what in (len(found), is_crossed and "quarrel", found != [] and not is_crossed and "beneath alone"):
            seen[what] = seen.get(what, 0) + 1


class Refusals(Base):

    def test_them(self):
        for call in (quarrel, quarrels):
            self.spot_refused(call, [("st", 1, 0, 1)])
            self.windows_refused(call)


class Own(Base):

    def test_each_list_is_new_and_nothing_is_changed(self):
        book = self.book("1 1 told st 90 : 1 0 1", "2 1 told st 90 : 1 2 3", "3 2 held bl st 90 : 1 1 0 0")
        spot, shut = [1], [("st", 1, 0, 1)]
        ahead = copy.deepcopy((spot, shut, words_of(book)))
        for call in (quarrel, quarrels):
            own_each_time(self, lambda call=call: call(book, "bl", spot, 3, shut))
        self.assertEqual(len(lists_in(quarrel(book, "bl", spot, 3, shut))), 2)
        self.assertEqual((spot, shut, words_of(book)), ahead)


class Time(Base):

    def test_chains_that_are_far_too_many_to_go_through(self):
        names = ["a", "b", "c", "d", "e", "f"]
        marks = [0, 3, 10, 17, 31, 50, 77, 100]
        book, key = Book(), 0
        for level, name in enumerate(names):
            key += 1
            book.put((key, 0, "thing", name, "scale", level, (1, 997), marks))
        for at in range(8):
            key += 1
            book.put((key, at, "told", "a", 10 ** 6, [(mark, (mark + at, 1), (mark + at, 1)) for mark in marks]))
            for level in range(1, 6):
                key += 1
                book.put((key, at + level, "held", names[level], names[level - 1], 10 ** 6,
                          [(mark, [1, 20, 40, 60, 80, 99], (at + 1, 991), (1, 983)) for mark in marks]))
        self.assertEqual(len(book.kept()), 54)
        began = perf_counter()
        found = quarrels(book, "f", marks[:6], 50, [])
        self.assertEqual(found[0], ("f", 0, 50))
        self.assertEqual({name for name, _, _ in found}, set(names))
        self.assertEqual(len(found), len(set(found)))
        low, high = quarrel(book, "f", marks[:6], 50, [])
        self.assertEqual((walk(book, "f", marks[:6], 50, low)[0], walk(book, "f", marks[:6], 50, high)[1]),
                         ends(book, "f", marks[:6], 50, []))
        # Far more than is needed where each mark on a day is looked at once.
        self.assertLess(perf_counter() - began, 30)
