"""Promises 2, 3, 4 and 12: stretches."""

import copy
import unittest
from collections import namedtuple
from fractions import Fraction
from itertools import product
from math import gcd
from random import Random

from truechain.errors import Wrong
from truechain.stretches import apart, holds, is_stretch, meeting, mixed, widened, width
from tests.helper import Stubborn, junk, places_refused

HUGE = 10 ** 60
WORTHS = [Fraction(top, bottom) for top in (-HUGE, -1001, -6, -1, 0, 1, 2, 7, HUGE + 1) for bottom in (1, 2, 6, HUGE)]
NO_STRETCHES = [
    ((1, 1), (0, 1)), ((1, 2), (1, 3)), ((0, 1), (-1, HUGE)), ((HUGE + 1, 1), (HUGE, 1)), [(0, 1), (1, 1)],
    ((0, 1),), ((0, 1), (1, 1), (2, 1)), (), (0, 1), (0, 0), (1, 2), (None, (1, 1)), ((0, 1), None), ((0, 1), 1),
    (0, (1, 1)), ((0, 2), (1, 1)), ((0, 1), (2, 2)), ([0, 1], (1, 1)), ((0, 1), [1, 1]), ((True, 1), (1, 1)),
    ((0, 1), (1, True)), ("ab", "cd"), "ab", {(0, 1): 1, (1, 1): 1}, ((0, -1), (1, 1)), (Stubborn(), (1, 1)),
    ((0, 1), Stubborn()),
]


def told(worth):
    """A worth of Python's own fractions, as a tuple."""
    return (worth.numerator, worth.denominator)


def made(low, high):
    """The stretch between two worths."""
    return (told(Fraction(low)), told(Fraction(high)))


def some_stretches():
    """Stretches of any size, with ends alike or not."""
    return [made(low, high) for low, high in product(WORTHS, repeat=2) if low <= high]


class Base(unittest.TestCase):

    def same(self, found, low, high):
        """Check that what was told is the stretch between two worths, in lowest terms."""
        self.assertIs(type(found), tuple)
        for end in found:
            self.assertIs(type(end), tuple)
            self.assertEqual(gcd(*end), 1)
        self.assertEqual(found, made(low, high))

    def refused(self, call, *arguments, at=0):
        with self.assertRaises(Wrong) as caught:
            call(*arguments)
        self.assertEqual(caught.exception.at, at)


class Questions(Base):

    def test_stretches(self):
        for thing in [made(0, 0), made(0, 1), made(-1, 1), made(-2, -1), made(HUGE, HUGE), *some_stretches()]:
            self.assertIs(is_stretch(thing), True, thing)

    def test_no_stretches(self):
        for thing in NO_STRETCHES + junk():
            with self.subTest(type(thing).__name__):
                self.assertIs(is_stretch(thing), False)

    def test_just_those_whose_ends_do_not_cross(self):
        for low, high in product(WORTHS, repeat=2):
            self.assertIs(is_stretch((told(low), told(high))), low <= high, (low, high))

    def test_a_tuple_of_a_class_of_its_own_is_a_tuple(self):
        pair = namedtuple("pair", "low high")
        self.assertIs(is_stretch(pair((0, 1), (1, 1))), True)
        self.assertIs(is_stretch(pair((1, 1), (0, 1))), False)


class Widened(Base):

    def test_examples(self):
        self.assertEqual(widened(((1, 2), (3, 2)), (1, 2)), ((0, 1), (2, 1)))
        self.assertEqual(widened(((-1, 3), (1, 6)), (1, 3)), ((-2, 3), (1, 2)))
        self.assertEqual(widened(((1, 2), (1, 2)), (0, 1)), ((1, 2), (1, 2)))

    def test_of_any_size(self):
        for low, high in product(WORTHS, repeat=2):
            for by in WORTHS:
                if low <= high and by >= 0:
                    self.same(widened(made(low, high), told(by)), low - by, high + by)

    def test_refused(self):
        good = [made(0, 1), (1, 2)]
        places_refused(self, widened, good, junk(), Wrong)
        for thing in NO_STRETCHES:
            self.refused(widened, thing, (0, 1))
            self.refused(widened, thing, (-1, 1))
        for by in ((-1, 1), (-1, HUGE), (-HUGE, 1), (2, 4), (0, 2), 0, 1, made(0, 1)):
            self.refused(widened, made(0, 1), by, at=1)


class Mixed(Base):

    def test_examples(self):
        self.assertEqual(mixed([]), ((0, 1), (0, 1)))
        self.assertEqual(mixed([((1, 2), ((1, 1), (3, 1)))]), ((1, 2), (3, 2)))
        self.assertEqual(mixed([((1, 2), ((1, 1), (3, 1))), ((2, 1), ((-1, 4), (-1, 4)))]), ((0, 1), (1, 1)))
        self.assertEqual(mixed([((0, 1), ((-5, 1), (7, 1)))]), ((0, 1), (0, 1)))

    def test_of_any_size(self):
        chance = Random(12)
        stretches = some_stretches()
        weights = [worth for worth in WORTHS if worth >= 0]
        for many in [*range(8), 50, 999, 1000]:
            parts = [(chance.choice(weights), chance.choice(stretches)) for _ in range(many)]
            low = sum((weight * Fraction(*stretch[0]) for weight, stretch in parts), Fraction(0))
            high = sum((weight * Fraction(*stretch[1]) for weight, stretch in parts), Fraction(0))
            self.same(mixed([(told(weight), stretch) for weight, stretch in parts]), low, high)

    def test_a_thousand(self):
        self.assertEqual(mixed([((1, 1000), made(1, 2))] * 1000), made(1, 2))

    def test_how_many(self):
        self.refused(mixed, [((1, 1), made(0, 1))] * 1001)

    def test_refused(self):
        good = ((1, 2), made(0, 1))
        places_refused(self, mixed, [[good]], [thing for thing in junk() if thing.__class__ is not list], Wrong)
        bad = [((-1, 2), made(0, 1)), ((2, 4), made(0, 1)), (1, made(0, 1)), [(1, 2), made(0, 1)], ((1, 2),),
               ((1, 2), made(0, 1), made(0, 1)), (made(0, 1), (1, 2)), ((1, 2), (0, 1), (1, 1)), (), None, Stubborn()]
        for thing in bad + [((1, 2), stretch) for stretch in NO_STRETCHES]:
            for at in range(3):
                parts = [good] * 3
                parts[at] = thing
                self.refused(mixed, parts)
            self.refused(mixed, [thing])
        self.refused(mixed, (good,))
        self.refused(mixed, {good: 1})


class MeetingAndApart(Base):

    def both(self, some, common, places):
        self.assertEqual(meeting(some), common)
        self.assertEqual(apart(some), places)

    def test_one(self):
        self.both([made(0, 1)], made(0, 1), None)
        self.both([made(3, 3)], made(3, 3), None)

    def test_alike(self):
        self.both([made(0, 1)] * 3, made(0, 1), None)

    def test_that_meet(self):
        self.both([made(0, 2), made(1, 3)], made(1, 2), None)
        self.both([made(1, 3), made(0, 2)], made(1, 2), None)
        self.both([made(0, 9), made(2, 3), made(1, 8)], made(2, 3), None)
        self.both([made(0, 5), made(1, 7), made(-3, 4), made(-9, 9)], made(1, 4), None)

    def test_that_only_touch(self):
        self.both([made(0, 1), made(1, 2)], made(1, 1), None)
        self.both([made(1, 2), made(0, 1)], made(1, 1), None)
        self.both([made(Fraction(1, 3), 1), made(0, Fraction(1, 3))], made(Fraction(1, 3), Fraction(1, 3)), None)

    def test_that_do_not_meet(self):
        self.both([made(0, 1), made(2, 3)], None, (1, 0))
        self.both([made(2, 3), made(0, 1)], None, (0, 1))
        self.both([made(0, 9), made(0, 1), made(5, 9), made(2, 3)], None, (2, 1))

    def test_the_first_of_those_as_great_is_told(self):
        self.both([made(0, 9), made(5, 8), made(0, 1), made(5, 6), made(-7, 1), made(5, 5)], None, (1, 2))
        self.both([made(-7, 1), made(0, 1), made(5, 6), made(5, 8)], None, (2, 0))
        self.both([made(0, 1), made(2, 2), made(0, 1), made(2, 2)], None, (1, 0))

    def test_against_all_pairs(self):
        chance = Random(7)
        seen = set()
        for _ in range(3000):
            ends = [sorted(Fraction(chance.randrange(-6, 7), chance.choice((1, 2))) for _ in range(2))
                    for _ in range(chance.choice((1, 2, 3, 5)))]
            some = [made(*pair) for pair in ends]
            low, high = max(pair[0] for pair in ends), min(pair[1] for pair in ends)
            meet = all(one[0] <= other[1] for one in ends for other in ends)
            seen.add((meet, low == high))
            if meet:
                self.both(some, made(low, high), None)
            else:
                self.both(some, None, ([pair[0] for pair in ends].index(low), [pair[1] for pair in ends].index(high)))
        self.assertEqual(len(seen), 3)

    def test_how_many(self):
        self.both([made(0, 1)] * 60, made(0, 1), None)
        self.both([made(0, 1)] * 59 + [made(2, 3)], None, (59, 0))
        for call in (meeting, apart):
            for many in (0, 61, 1001):
                self.refused(call, [made(0, 1)] * many)

    def test_refused(self):
        for call in (meeting, apart):
            places_refused(self, call, [[made(0, 1)]], junk(), Wrong)
            for thing in NO_STRETCHES:
                self.refused(call, [thing])
                for at in range(3):
                    some = [made(0, 1)] * 3
                    some[at] = thing
                    self.refused(call, some)
            self.refused(call, (made(0, 1),))
            self.refused(call, made(0, 1))


class HoldsAndWidth(Base):

    def test_holds_at_the_ends_and_just_beyond(self):
        for low, high in ((0, 1), (-3, -2), (Fraction(1, 3), Fraction(1, 2)), (5, 5), (-HUGE, HUGE)):
            stretch, bit = made(low, high), Fraction(1, HUGE)
            for worth, found in ((low, True), (high, True), (low - bit, False), (high + bit, False),
                                 ((low + high) / Fraction(2), True), (low - 1, False), (high + 1, False)):
                self.assertIs(holds(stretch, told(Fraction(worth))), found, (low, high, worth))

    def test_holds_of_any_size(self):
        for low, high, worth in product(WORTHS[::3], WORTHS[::2], WORTHS):
            if low <= high:
                self.assertIs(holds(made(low, high), told(worth)), low <= worth <= high)

    def test_width(self):
        self.assertEqual(width(((1, 3), (1, 2))), (1, 6))
        self.assertEqual(width(((-1, 2), (1, 2))), (1, 1))
        self.assertEqual(width(((7, 5), (7, 5))), (0, 1))
        for low, high in product(WORTHS, repeat=2):
            if low <= high:
                self.assertEqual(width(made(low, high)), told(high - low))

    def test_refused(self):
        places_refused(self, holds, [made(0, 1), (1, 2)], junk(), Wrong)
        places_refused(self, width, [made(0, 1)], junk(), Wrong)
        for thing in NO_STRETCHES:
            self.refused(holds, thing, (1, 2))
            self.refused(width, thing)
        for worth in ((2, 4), made(0, 1), 0, [1, 2]):
            self.refused(holds, made(0, 1), worth, at=1)


class Unchanged(Base):

    def test_nothing_handed_in_is_changed_and_the_same_is_told_again(self):
        for call, some in ((meeting, [made(0, 2), made(1, 3)]), (apart, [made(0, 1), made(2, 3), made(0, 1)]),
                           (mixed, [((1, 2), made(0, 1)), ((0, 1), made(2, 3))])):
            ahead = copy.deepcopy(some)
            first = call(some)
            self.assertEqual(some, ahead)
            self.assertEqual(call(some), first)

    def test_a_changed_list_is_looked_at_anew(self):
        some = [made(0, 2)]
        self.assertEqual(meeting(some), made(0, 2))
        some.append(made(3, 4))
        self.assertIsNone(meeting(some))
        self.assertEqual(apart(some), (1, 0))
        some.append(made(4, 3))
        self.refused(apart, some)
