"""Promises 3, 4, 8, 32, 34 and 35: the fewest offers with which all wishes are met."""

import copy
from fractions import Fraction
from itertools import combinations
from random import Random
from time import perf_counter

from truechain.book import Book
from truechain.chains import through, walk
from truechain.doubts import all_windows
from truechain.errors import NoOffer, NoSpot, NoThing, TooMany, Wrong
from truechain.offers import met, near_with
from truechain.plans import needed, plan
from truechain.stretches import width
from tests.chance import small, some_trial
from tests.helper import NO_OFFERS, NO_WISHES, Case, Stubborn, junk, lists_in, own_each_time, places_refused, words_of
from tests.teller import Teller

ONE, NOUGHT = (1, 1), (0, 1)
THINGS = (
    "101 0 thing st box 0 0 1,2,5",
    "102 0 thing ru scale 0 0 0,10",
    "103 0 thing ga scale 2 1 0,5,10",
    "104 0 thing bl box 1 0 1,2,3",
    "105 0 told st 1000 : 1 0 1 : 2 0 2 : 5 0 5",
    "106 0 told ru 1000 : 0 0 1 : 10 8 10",
)


def offer(key, name, finer, *rows):
    """An offer with rows (mark, spot, top of the slack)."""
    return (key, name, finer, [(mark, spot, (top, 1)) for mark, spot, top in rows])


class Base(Case):

    def book(self, *texts):
        """A book of the things and more papers, all of which stand."""
        return self.standing(*THINGS, *texts)

    def planned(self, book, offers, wishes, keys, must):
        """Check the keys of a plan on day 7, and those that are needed."""
        word, found, chains = plan(book, 7, offers, wishes)
        self.assertEqual((word, found), ("plan", keys))
        self.assertEqual(needed(book, 7, offers, wishes), must)
        chosen = [one for one in offers if one[0] in keys]
        self.assertEqual(chains, [near_with(book, 7, chosen, name, spot)[1] for name, spot, _ in wishes])
        self.assertEqual(met(book, 7, chosen, wishes), [True] * len(wishes))


class Plan(Base):

    def test_none_needed(self):
        book = self.book("1 4 held ga st 90 : 0 1 0 3")
        offers = [offer(10, "ga", "ru", (0, [0], 0)), offer(11, "bl", "st", (1, [1], 0))]
        rows = [(1, "ga", 0, 7, ONE), (105, "st", 1, 4, ONE)]
        self.assertEqual(plan(book, 7, offers, [("ga", [0], (13, 1))]), ("plan", [], [rows]))
        self.assertEqual(needed(book, 7, offers, [("ga", [0], (13, 1))]), [])
        self.assertEqual(plan(book, 7, [], [("ga", [0], (13, 1))]), ("plan", [], [rows]))
        self.assertEqual(plan(book, 7, offers, []), ("plan", [], []))
        self.assertEqual(plan(Book(), 7, [], []), ("plan", [], []))
        self.assertEqual(needed(book, 7, offers, []), [])
        self.assertIs(type(plan(book, 7, [], [])), tuple)

    def test_one_needed(self):
        book = self.book("1 4 held ga st 90 : 0 1 0 3")
        offers = [offer(12, "bl", "st", (1, [1], 0)), offer(10, "ga", "ru", (0, [0], 1)), offer(11, "ga", "st", (5, [1], 0))]
        wishes = [("ga", [0], (3, 1))]
        self.assertEqual(plan(book, 7, offers, wishes), ("plan", [10], [[(10, "ga", 0, 7, ONE), (106, "ru", 0, 7, ONE)]]))
        self.assertEqual(needed(book, 7, offers, wishes), [10])
        # The chains are those with just the chosen ones, even where another offer would bring a spot nearer.
        wishes = [("ga", [0], (13, 1)), ("ga", [5], (1, 1))]
        self.assertEqual(plan(book, 7, offers, wishes), ("plan", [11], [
            [(1, "ga", 0, 7, ONE), (105, "st", 1, 4, ONE)], [(11, "ga", 5, 7, ONE), (105, "st", 1, 7, ONE)]]))
        self.assertEqual(needed(book, 7, offers, wishes), [11])

    def test_several_needed(self):
        offers = [offer(30, "ga", "ru", (0, [0], 1)), offer(20, "ga", "bl", (5, [1], 0)), offer(25, "ga", "ru", (10, [9], 0)),
                  offer(10, "bl", "st", (1, [1], 0))]
        wishes = [("ga", [5], (1, 1)), ("ga", [0], (3, 1))]
        self.planned(self.book(), offers, wishes, [30, 20, 10], [30, 20, 10])
        self.planned(self.book(), offers[::-1], wishes, [10, 20, 30], [10, 20, 30])
        self.planned(self.book(), offers, wishes[:1], [20, 10], [20, 10])

    def test_of_choices_as_few_the_first(self):
        book = self.book()
        same = [offer(key, "ga", "ru", (0, [0], 1)) for key in (30, 10, 20)]
        self.planned(book, same, [("ga", [0], (3, 1))], [30], [])
        self.planned(book, same[:1], [("ga", [0], (3, 1))], [30], [30])
        # Two are wanted: 0 and 5 together, by the first and the third or by the second and the third.
        offers = [offer(9, "ga", "ru", (0, [0], 1)), offer(8, "ga", "ru", (0, [0], 0)), offer(7, "ga", "ru", (5, [0], 1))]
        wishes = [("ga", [0], (3, 1)), ("ga", [5], (3, 1))]
        self.planned(book, offers, wishes, [9, 7], [7])
        self.planned(book, [offers[2], *offers[:2]], wishes, [7, 9], [7])
        self.planned(book, [offers[1], offers[2], offers[0]], wishes, [8, 7], [7])

    def test_one_that_does_for_two(self):
        offers = [offer(10, "ga", "ru", (0, [0], 1)), offer(11, "ga", "ru", (5, [0], 1)),
                  offer(12, "ga", "ru", (0, [0], 1), (5, [0], 1))]
        wishes = [("ga", [0], (3, 1)), ("ga", [5], (3, 1))]
        self.planned(self.book(), offers, wishes, [12], [])
        self.planned(self.book(), offers[:2], wishes, [10, 11], [10, 11])
        self.planned(self.book(), offers, wishes[1:], [11], [])

    def test_the_places_are_compared_from_the_first_on(self):
        # Of pairs that do: places 0 and 3, and places 1 and 2; the other pairs do not.
        offers = [offer(40, "ga", "ru", (0, [0], 1)), offer(30, "ga", "st", (0, [1], 0), (5, [5], 0)),
                  offer(20, "ga", "ru", (5, [0], 1)), offer(10, "ga", "ru", (5, [0], 0))]
        wishes = [("ga", [0], (3, 1)), ("ga", [5], (3, 1))]
        self.planned(self.book(), offers, wishes, [40, 20], [])
        offers[2] = offer(20, "ga", "ru", (5, [0], 2))
        self.planned(self.book(), offers, wishes, [40, 10], [10])

    def test_offers_by_one_another_with_a_detour(self):
        # Straight by one wide offer, or by two narrow ones.
        offers = [offer(10, "ga", "st", (0, [1], 2)), offer(11, "ga", "bl", (0, [1], 0)), offer(12, "bl", "st", (1, [1], 1))]
        self.planned(self.book(), offers, [("ga", [0], (5, 1))], [10], [])
        self.planned(self.book(), offers, [("ga", [0], (4, 1))], [11, 12], [11, 12])
        self.planned(self.book(), offers, [("ga", [0], (4, 1)), ("bl", [1], (3, 1))], [11, 12], [11, 12])
        self.assertEqual(plan(self.book(), 7, offers, [("ga", [0], (2, 1))])[:2], ("never", 0))

    def test_eight_that_are_all_needed(self):
        marks = [1, 2, 3, 4, 5, 6, 7, 8]
        book = self.standing(
            "101 0 thing a box 0 0 1", "102 0 told a 9 : 1 0 0", "103 0 thing b box 1 0 1,2,3,4,5,6,7,8")
        offers = [offer(key, "b", "a", (mark, [1], 0)) for key, mark in zip(range(30, 22, -1), marks)]
        wishes = [("b", [1, 2, 3, 4, 5, 6], NOUGHT), ("b", [7, 8], NOUGHT)]
        self.planned(book, offers, wishes, list(range(30, 22, -1)), list(range(30, 22, -1)))
        self.planned(book, offers, wishes[1:], [24, 23], [24, 23])


class Never(Base):

    def test_the_first_wish_that_is_not_met(self):
        book = self.book("1 4 held ga st 90 : 0 1 0 3")
        offers = [offer(10, "ga", "ru", (0, [0], 1)), offer(11, "bl", "st", (1, [1], 0))]
        good, narrow, bare = ("ga", [0], (3, 1)), ("ga", [0], (2, 1)), ("ga", [10], (9, 1))
        by_offer = [(10, "ga", 0, 7, ONE), (106, "ru", 0, 7, ONE)]
        self.assertEqual(plan(book, 7, offers, [narrow]), ("never", 0, by_offer))
        self.assertEqual(plan(book, 7, offers, [good, good, narrow, bare]), ("never", 2, by_offer))
        self.assertEqual(plan(book, 7, offers, [good, bare, narrow]), ("never", 1, None))
        self.assertEqual(plan(book, 7, [], [narrow]), ("never", 0, [(1, "ga", 0, 7, ONE), (105, "st", 1, 4, ONE)]))
        self.assertEqual(plan(book, 7, [], [bare]), ("never", 0, None))
        for wishes in ([narrow], [good, bare], [bare, good, narrow]):
            self.assertEqual(needed(book, 7, offers, wishes), [10, 11])
            self.assertEqual(needed(book, 7, offers[::-1], wishes), [11, 10])
            self.assertEqual(needed(book, 7, [], wishes), [])

    def test_by_windows(self):
        offers = [offer(10, "ga", "ru", (0, [0], 1)), offer(11, "ga", "st", (0, [1], 3))]
        wish = [("ga", [0], (3, 1))]
        self.assertEqual(plan(self.book("1 9 off st"), 7, offers, wish)[:2], ("plan", [10]))
        self.assertEqual(plan(self.book("1 9 off ru"), 7, offers, wish), ("never", 0, [(11, "ga", 0, 7, ONE), (105, "st", 1, 7, ONE)]))
        self.assertEqual(plan(self.book("1 9 off ru", "2 9 off st"), 7, offers, wish), ("never", 0, None))
        self.assertEqual(plan(self.book("1 9 off ga"), 7, offers, wish), ("never", 0, None))


class Refusals(Base):

    def test_in_their_order(self):
        book = self.book(*[f"{key} 900 read st 1" for key in range(1000, 1050)])
        good, bad = offer(10, "ga", "ru", (0, [0], 0)), offer(11, "zz", "ru", (0, [0], 0))
        fine, no_thing, no_spot = ("ru", [0], ONE), ("aa", [999], ONE), ("ru", [11], ONE)
        for call in (plan, needed):
            self.refused(TooMany, call, book, 7, [bad] * 5, [no_thing], most=60)
            self.refused(NoOffer, call, book, 7, [bad] * 4, [no_thing], at=0)
            self.refused(NoOffer, call, book, 7, [good, bad], [no_spot], at=1)
            self.refused(NoOffer, call, book, 7, [good, good], [no_spot], at=1)
            self.refused(NoThing, call, book, 7, [good], [fine, no_thing, no_spot], name="aa")
            self.refused(NoSpot, call, book, 7, [good], [fine, no_spot, no_thing])

    def test_wrong(self):
        book = self.book()
        offers, wishes = [offer(10, "ga", "ru", (0, [0], 3))], [("ga", [0], ONE)]
        bad = [thing for thing in junk() if thing.__class__ is not list]
        for call in (plan, needed):
            places_refused(self, call, [book, 7, offers, wishes], bad, Wrong)
            for thing in NO_OFFERS:
                self.refused(Wrong, call, book, 7, [offer(101, "aa", "aa", (0, [0], 0)), thing], None, at=2)
            for thing in NO_WISHES:
                self.refused(Wrong, call, book, 7, [offer(101, "aa", "aa", (0, [0], 0))], [("aa", [0], ONE), thing], at=3)
            self.refused(Wrong, call, book, 7, offers * 9, [], at=2)
            self.refused(Wrong, call, book, 7, [], wishes * 7, at=3)
            self.refused(Wrong, call, book, -1, [Stubborn()], [Stubborn()], at=1)

    def test_each_list_is_new_and_nothing_is_changed(self):
        book = self.book("1 4 held ga st 90 : 0 1 0 3")
        offers = [offer(10, "ga", "ru", (0, [0], 3)), offer(11, "bl", "st", (1, [1, 5], 0))]
        wishes = [("ga", [0, 0], (20, 1)), ("bl", [1], (9, 1)), ("bl", [1], (9, 1))]
        ahead = copy.deepcopy((offers, wishes, words_of(book), [book.paper(key) for key in book.kept()]))
        own_each_time(self, lambda: plan(book, 7, offers, wishes))
        own_each_time(self, lambda: needed(book, 7, offers, wishes))
        own_each_time(self, lambda: plan(book, 7, offers, [("bl", [1], ONE)]))
        self.assertEqual(len(lists_in(plan(book, 7, offers, wishes))), 5)
        self.assertEqual((offers, wishes, words_of(book), [book.paper(key) for key in book.kept()]), ahead)


class AsTheTellerTells(Base):

    def test_plans_that_are_then_carried_out(self):
        seen = {}
        for seed in range(400):
            chance = Random(seed)
            model, day, offers, wishes = some_trial(chance, Teller)
            book = Book()
            for one in model.papers:
                book.put(one)
            found = plan(book, day, offers, wishes)
            self.assertEqual(found, model.plan(day, offers, wishes))
            must = needed(book, day, offers, wishes)
            self.assertEqual(must, model.needed(day, offers, wishes))
            if found[0] == "plan":
                self.carry_out(chance, book, day, [one for one in offers if one[0] in found[1]], wishes, found[2])
                self.assertLessEqual(set(must), set(found[1]))
            else:
                self.assertEqual(must, [one[0] for one in offers])
            what = min(len(found[1]), 2) if found[0] == "plan" else ("never", found[2] is None)
            seen[what] = seen.get(what, 0) + 1
        self.assertGreater(min(seen.get(what, 0) for what in (0, 1, 2, ("never", True), ("never", False))), 2, seen)

    def carry_out(self, chance, book, day, chosen, wishes, chains):
        """Promise 35: whatever the differences and terms, all stand, and the chains can be walked."""
        other = book.copied()
        for key, name, finer, rows in chance.sample(chosen, len(chosen)):
            other.put((key, day, "held", name, finer, chance.choice((0, 1, 1000, 10 ** 6)),
                       [(mark, spot, small(chance), slack) for mark, spot, slack in rows]))
        self.assertEqual({other.word(one[0]) for one in chosen} - {"stands"}, set())
        self.assertEqual(len(chains), len(wishes))
        for (name, spot, wished), rows in zip(wishes, chains):
            self.assertLessEqual(Fraction(*width(walk(other, name, spot, day, rows))), Fraction(*wished))
            self.assertEqual(through(rows, all_windows(book)), [])
            self.assertEqual(through(rows, all_windows(other)), [])


class Time(Base):

    def test_all_choices_of_offers_over_far_too_many_chains(self):
        names = ["a", "b", "c", "d", "e", "f"]
        marks = [0, 3, 10, 17, 31, 50, 77, 100]
        book, key = Book(), 0
        for level, name in enumerate(names):
            key += 1
            book.put((key, 0, "thing", name, "scale", level, (1, 997), marks))
        for at in range(8):
            key += 1
            book.put((key, 7, "told", "a", 0, [(mark, (mark, 1), (mark + at, 1)) for mark in marks]))
            for level in range(1, 6 - at % 2):
                key += 1
                book.put((key, 7, "held", names[level], names[level - 1], 0,
                          [(mark, [1, 20, 40, 60, 80, 99], (1, 991), (at + 1, 983)) for mark in marks]))
        offers = [offer(1000 + at, "f", "e", (mark, [1, 20, 40, 60, 80, 99], 0)) for at, mark in enumerate(marks)]
        self.assertEqual(len(book.kept()), 50)
        wishes = []
        for spot in combinations(marks, 6):
            if len(wishes) < 6 and (not wishes or 100 in spot):
                top, bottom = near_with(book, 7, offers, "f", list(spot))[0]
                wishes.append(("f", list(spot), (-(-top * 1000 // bottom), 1000)))
        wishes = [(name, spot, (worth.numerator, worth.denominator)) for name, spot, (top, bottom) in wishes
                  for worth in [Fraction(top, bottom)]]
        began = perf_counter()
        word, keys, _ = plan(book, 7, offers, wishes)
        self.assertEqual((word, keys), ("plan", needed(book, 7, offers, wishes)))
        self.assertGreater(len(keys), 6)
        # Far more than is needed where each choice looks once at each mark of that day.
        self.assertLess(perf_counter() - began, 60)
