"""Promises 2, 3, 4 and 11: fractions and what is reckoned with them."""

import copy
import unittest
from collections import namedtuple
from fractions import Fraction
from math import gcd
from random import Random

from truechain.errors import Wrong
from truechain.fractions import (
    fraction, greatest, is_fraction, is_small, least, less, order, plus, times, total,
)
from tests.helper import junk, places_refused

HUGE = 10 ** 60
PARTS = (-HUGE - 7, -HUGE, -1001, -12, -6, -3, -2, -1, 0, 1, 2, 3, 4, 6, 9, 12, 1000, HUGE, HUGE + 1, 3 * HUGE, 7 ** 90)
NO_FRACTIONS = [
    (2, 4), (-2, 4), (0, 2), (0, 0), (1, 0), (1, -1), (-1, -2), (1, -2), (0, -1), (True, 1), (1, True), (False, 1),
    (1, False), [1, 2], [0, 1], (), (1,), (1, 2, 3), (1, 1, 1), "12", "1/2", b"12", None, True, False, 0, 1, {}, {1: 2},
    {1, 2}, (None, 1), (1, None), ("1", 2), (1, "2"), ((1, 2), 1), (1, [2]), (HUGE, HUGE), (2 * HUGE, 4 * HUGE - 2),
]


def told(worth):
    """A worth of Python's own fractions, as a tuple."""
    return (worth.numerator, worth.denominator)


def some_fractions():
    """Fractions of either sign and of any size."""
    return [told(Fraction(top, bottom)) for top in PARTS for bottom in (1, 2, 3, 6, 12, 1000, HUGE, 7 ** 90)]


class Base(unittest.TestCase):

    def same(self, found, worth):
        """Check that what was told is a worth, as a fraction."""
        self.assertIs(type(found), tuple)
        self.assertEqual([type(part) for part in found], [int, int])
        self.assertEqual(found, told(worth))
        self.assertGreaterEqual(found[1], 1)
        self.assertEqual(gcd(*found), 1)


class Questions(Base):

    def test_fractions(self):
        for thing in [(0, 1), (1, 1), (-1, 1), (1, 2), (-1, 2), (7, 3), (1, 10 ** 60), (10 ** 60, 1), (-(10 ** 60), 7),
                      (10 ** 700, 10 ** 700 - 1), *some_fractions()]:
            self.assertIs(is_fraction(thing), True, thing)

    def test_no_fractions(self):
        for thing in NO_FRACTIONS:
            with self.subTest(thing):
                self.assertIs(is_fraction(thing), False)
                self.assertIs(is_small(thing), False)

    def test_just_those_in_lowest_terms(self):
        for top in range(-13, 14):
            for bottom in range(-3, 14):
                good = bottom >= 1 and gcd(top, bottom) == 1
                self.assertIs(is_fraction((top, bottom)), good, (top, bottom))
                self.assertIs(is_small((top, bottom)), good, (top, bottom))

    def test_a_tuple_of_a_class_of_its_own_is_a_tuple(self):
        pair = namedtuple("pair", "top bottom")
        self.assertIs(is_fraction(pair(1, 2)), True)
        self.assertIs(is_fraction(pair(2, 4)), False)
        self.assertEqual(plus(pair(1, 2), pair(1, 3)), (5, 6))

    def test_small_ones(self):
        most = 10 ** 12
        for thing in [(0, 1), (most, 1), (-most, 1), (most - 1, 1), (1 - most, 1), (1, 1000), (-1, 1000), (1, 999),
                      (most, 999), (-most, 999), (most - 1, 1000), (1 - most, 1000)]:
            self.assertIs(is_small(thing), True, thing)

    def test_no_small_ones(self):
        most = 10 ** 12
        for thing in [(most + 1, 1), (-most - 1, 1), (1, 1001), (-1, 1001), (most + 1, 1000), (-most - 1, 1000),
                      (most, 1001), (HUGE, 1), (-HUGE, 1), (1, HUGE)]:
            self.assertIs(is_small(thing), False, thing)
            self.assertIs(is_fraction(thing), True, thing)

    def test_small_ones_are_fractions(self):
        for thing in [(most, bottom) for most in (10 ** 12, -10 ** 12) for bottom in (1000, 2, 0, -1)]:
            self.assertIs(is_small(thing), False, thing)

    def test_of_anything_it_is_told(self):
        for thing in junk():
            self.assertIs(is_fraction(thing), False, type(thing))
            self.assertIs(is_small(thing), False, type(thing))


class Reckoning(Base):

    def test_examples(self):
        self.assertEqual(fraction(6, -4), (-3, 2))
        self.assertEqual(plus((1, 2), (1, 3)), (5, 6))
        self.assertEqual(less((1, 2), (1, 3)), (1, 6))
        self.assertEqual(less((1, 3), (1, 2)), (-1, 6))
        self.assertEqual(times((2, 3), (3, 4)), (1, 2))
        self.assertEqual(order((1, 3), (1, 2)), -1)
        self.assertEqual(order((1, 2), (1, 2)), 0)
        self.assertEqual(order((1, 2), (1, 3)), 1)
        self.assertEqual(total([(1, 2), (1, 3), (1, 6)]), (1, 1))
        self.assertEqual(least([(1, 2), (-1, 3), (1, 6)]), (-1, 3))
        self.assertEqual(greatest([(1, 6), (1, 2), (-1, 3)]), (1, 2))

    def test_fraction(self):
        for top in PARTS:
            for bottom in PARTS:
                if bottom:
                    self.same(fraction(top, bottom), Fraction(top, bottom))

    def test_nought(self):
        for bottom in (1, -1, 2, -2, 1000, HUGE, -HUGE):
            self.assertEqual(fraction(0, bottom), (0, 1))
        for one in ((1, 2), (-7, 3), (HUGE, 7), (0, 1)):
            self.assertEqual(less(one, one), (0, 1))
            self.assertEqual(plus(one, (-one[0], one[1])), (0, 1))
            self.assertEqual(times(one, (0, 1)), (0, 1))
            self.assertEqual(times((0, 1), one), (0, 1))
            self.assertEqual(plus((0, 1), one), one)
            self.assertEqual(plus(one, (0, 1)), one)
            self.assertEqual(less(one, (0, 1)), one)

    def test_two_fractions(self):
        some = [(one, Fraction(*one)) for one in some_fractions()[::3]]
        for one, here in some:
            for other, there in some:
                self.same(plus(one, other), here + there)
                self.same(less(one, other), here - there)
                self.same(times(one, other), here * there)
                told_order = order(one, other)
                self.assertIs(type(told_order), int)
                self.assertEqual(told_order, (here > there) - (here < there))

    def test_two_small_fractions(self):
        some = [told(Fraction(top, bottom)) for top in range(-4, 5) for bottom in range(1, 7)]
        for one in some:
            for other in some:
                here, there = Fraction(*one), Fraction(*other)
                self.same(plus(one, other), here + there)
                self.same(less(one, other), here - there)
                self.same(times(one, other), here * there)
                self.assertEqual(order(one, other), (here > there) - (here < there))

    def test_order_of_huge_ones_that_differ_by_next_to_nothing(self):
        one, other = (HUGE, HUGE + 1), (HUGE + 1, HUGE + 2)
        self.assertEqual((order(one, other), order(other, one), order(one, one)), (-1, 1, 0))


class Lists(Base):

    def test_total_of_none_and_of_one(self):
        self.same(total([]), Fraction(0))
        for one in ((0, 1), (1, 2), (-7, 3), (HUGE, 7)):
            self.assertEqual(total([one]), one)

    def test_total(self):
        some = some_fractions()
        for many in (2, 3, 4, 5, 7, 8, 9, 31, 64, 100):
            self.same(total(some[:many]), sum(Fraction(*one) for one in some[:many]))
        self.same(total(some), sum(Fraction(*one) for one in some))

    def test_total_of_alike_ones(self):
        for many in (2, 3, 12, 1000):
            self.same(total([(1, 12)] * many), Fraction(many, 12))
        self.assertEqual(total([(1, 3), (-1, 3)] * 500), (0, 1))

    def test_lists_of_a_thousand(self):
        some = [told(Fraction((at * 7919) % 1001 - 500, at % 999 + 1)) for at in range(1000)]
        worths = [Fraction(*one) for one in some]
        self.same(total(some), sum(worths))
        self.same(least(some), min(worths))
        self.same(greatest(some), max(worths))

    def test_a_thousand_huge_ones_take_no_long_time(self):
        dice = Random(11)
        some = [told(Fraction(dice.randrange(-HUGE, HUGE), dice.randrange(1, HUGE))) for _ in range(1000)]
        top, bottom = total(some)
        self.assertEqual(gcd(top, bottom), 1)
        # Python's own sum of these takes long, so the worth is checked by what it leaves on parting by a prime.
        prime = 2 ** 127 - 1
        wanted = sum(one[0] * pow(one[1], -1, prime) for one in some) % prime
        self.assertEqual(top * pow(bottom, -1, prime) % prime, wanted)

    def test_least_and_greatest(self):
        some = some_fractions()
        for many in (1, 2, 3, 10, len(some)):
            worths = [Fraction(*one) for one in some[:many]]
            for part in (some[:many], some[:many][::-1]):
                self.same(least(part), min(worths))
                self.same(greatest(part), max(worths))

    def test_least_and_greatest_at_each_place(self):
        for at in range(4):
            some = [(1, 2)] * 4
            some[at] = (1, 3)
            self.assertEqual((least(some), greatest(some)), ((1, 3), (1, 2)))
            some[at] = (2, 3)
            self.assertEqual((least(some), greatest(some)), ((1, 2), (2, 3)))

    def test_least_and_greatest_of_alike_ones(self):
        for one in ((0, 1), (1, 2), (-1, 2), (HUGE, 7)):
            for many in (1, 2, 5, 1000):
                self.assertEqual(least([one] * many), one)
                self.assertEqual(greatest([one] * many), one)
        self.assertEqual(least([(1, 2), (-1, 2), (1, 2), (-1, 2)]), (-1, 2))
        self.assertEqual(greatest([(1, 2), (-1, 2), (1, 2), (-1, 2)]), (1, 2))

    def test_lists_stay_as_they_were(self):
        for call in (total, least, greatest):
            for some in ([(1, 2)], [(3, 4), (1, 2), (1, 2), (-5, 3)], [(1, 2)] * 1000):
                ahead = copy.deepcopy(some)
                call(some)
                self.assertEqual(some, ahead)
        empty = []
        total(empty)
        self.assertEqual(empty, [])

    def test_what_is_done_to_a_list_behind_a_call_changes_nothing(self):
        for call in (total, least, greatest):
            some = [(3, 4), (1, 2)]
            found = call(some)
            kept = tuple(found)
            some[:] = [(5, 1)]
            self.assertEqual(found, kept)
            self.assertEqual(call([(3, 4), (1, 2)]), kept)
            self.assertEqual(call(some), (5, 1))
        self.assertEqual(total([]), (0, 1))


class Refused(Base):

    def wrong_at(self, at, call, *arguments):
        with self.assertRaises(Wrong) as caught:
            call(*arguments)
        self.assertIs(type(caught.exception), Wrong)
        self.assertEqual(caught.exception.at, at)

    def test_tops_and_bottoms(self):
        bad = [thing for thing in junk() if not isinstance(thing, int) or isinstance(thing, bool)]
        places_refused(self, fraction, [1, 2], bad, Wrong)

    def test_a_bottom_of_nought(self):
        for top in (0, 1, -5, HUGE):
            self.wrong_at(1, fraction, top, 0)
        for top in (None, True, "1", (1, 2)):
            self.wrong_at(0, fraction, top, 0)
        self.wrong_at(1, fraction, 1, False)
        self.assertEqual(fraction(0, 5), (0, 1))

    def test_two_fractions(self):
        for call in (plus, less, times, order):
            places_refused(self, call, [(1, 2), (2, 3)], NO_FRACTIONS + junk(), Wrong)

    def test_what_is_no_list(self):
        for thing in junk() + [((1, 2),), ((1, 2), (2, 3)), {(1, 2)}, {(1, 2): 1}, (1, 2), "12", iter([(1, 2)])]:
            for call in (total, least, greatest):
                # Of the junk the empty list alone is as told, and that to total alone.
                if call is total and isinstance(thing, list) and len(thing) == 0:
                    self.assertEqual(call(thing), (0, 1))
                else:
                    self.wrong_at(0, call, thing)

    def test_empty_lists(self):
        self.wrong_at(0, least, [])
        self.wrong_at(0, greatest, [])

    def test_lists_that_are_too_long(self):
        for call in (total, least, greatest):
            call([(1, 2)] * 1000)
            self.wrong_at(0, call, [(1, 2)] * 1001)
            self.wrong_at(0, call, [(1, 2)] * 5000)

    def test_one_spoilt_thing(self):
        for call in (total, least, greatest):
            for many in (1, 3, 1000):
                for at in (0, many // 2, many - 1):
                    for bad in NO_FRACTIONS:
                        some = [(1, 2)] * many
                        some[at] = bad
                        self.wrong_at(0, call, some)

    def test_what_is_refused_changes_nothing(self):
        some = [(1, 2), (2, 4), [1, 2]]
        ahead = copy.deepcopy(some)
        for call in (total, least, greatest):
            self.wrong_at(0, call, some)
            self.assertEqual(some, ahead)
        self.assertEqual(total([(1, 2)]), (1, 2))
