"""Promises 2, 3 and 11: the kinds of whole numbers, of names and of spots."""

import copy
import unittest
from enum import IntEnum

from truechain.kinds import is_day, is_key, is_name, is_point, is_spot, is_whole
from tests.helper import junk

QUESTIONS = (is_whole, is_day, is_key, is_point, is_name, is_spot)
NUMBERS = (-(10 ** 60), -10 ** 9, -2, -1, 0, 1, 2, 5, 6, 999, 1000, 1001, 999999, 10 ** 6, 10 ** 6 + 1,
           10 ** 9 - 1, 10 ** 9, 10 ** 9 + 1, 10 ** 60, 10 ** 700)


class Size(IntEnum):
    """Ints of a class of their own."""
    ONE = 1


class Kinds(unittest.TestCase):

    def just(self, question, good, bad):
        """Check that a question is answered with True for the good things, and with False for the bad ones."""
        for thing in good:
            with self.subTest(question.__name__, good=thing):
                self.assertIs(question(thing), True)
        for thing in bad:
            with self.subTest(question.__name__, bad=repr(thing)[:40]):
                self.assertIs(question(thing), False)

    def within(self, question, low, high):
        """Check that of the numbers just those from low to high are of the kind."""
        self.just(question, [n for n in NUMBERS if low <= n <= high], [n for n in NUMBERS if not low <= n <= high])
        self.just(question, [low, low + 1, high - 1, high], [low - 1, high + 1])

    def test_whole(self):
        self.just(is_whole, NUMBERS, [True, False, None, "", "1", b"1", [], [1], (), (1,), {}, {1: 1}, range(1)])

    def test_day(self):
        self.within(is_day, 0, 10 ** 6)

    def test_key(self):
        self.within(is_key, 1, 10 ** 9)

    def test_point(self):
        self.within(is_point, 0, 1000)

    def test_what_is_no_number(self):
        for question in (is_whole, is_day, is_key, is_point):
            self.just(question, [1, 2, 1000], [True, False, None, "1", "a", [1], (1,), (1, 1), {1: 1}, {1}, b"1"])

    def test_an_int_of_a_class_of_its_own_is_a_whole_number(self):
        for question in (is_whole, is_day, is_key, is_point):
            self.just(question, [Size.ONE], [])

    def test_name(self):
        self.just(is_name, ["a", "z", "az", "gauge", "true", "none", "eightsig", "abcdefgh", "ijklmnop", "qrstuvwx"],
                  ["", "ninesigns", "abcdefghi", "a" * 1000])

    def test_signs_of_a_name(self):
        for sign in [chr(number) for number in range(32, 127)] + ["\n"]:
            for name in (sign, sign + "bc", "a" + sign + "c", "ab" + sign):
                with self.subTest(name):
                    self.assertIs(is_name(name), sign in "abcdefghijklmnopqrstuvwxyz")

    def test_what_is_no_name(self):
        self.just(is_name, [], ["Gauge", "gaugE", "gauge1", "1", " gauge", "gauge ", "gau ge", "gauge\n", "\ngauge",
                                "\n", " ", "`", "{", None, True, 7, b"gauge", ["g"], ["gauge"], ("a", "b"), {"a": 1},
                                {"a"}])

    def test_spot(self):
        self.just(is_spot, [[0], [1000], [0, 1000], [5, 5], [3, 5], [0, 0, 0, 0, 0, 0], [1, 2, 3, 4, 5, 6],
                            [1000] * 6, [0, 0, 7, 7, 1000, 1000]],
                  [[], [1, 2, 3, 4, 5, 6, 7], [0] * 7, [5] * 1001])

    def test_a_falling_spot(self):
        self.just(is_spot, [], [[1, 0], [5, 3], [1, 2, 3, 4, 6, 5], [2, 1, 3, 4, 5, 6], [1, 2, 4, 3, 5, 6],
                                [1000, 0], [1, 3, 2]])

    def test_points_of_a_spot(self):
        for bad in (-1, 1001, True, False, None, "1", "a", [1], (1,), {}, 10 ** 60):
            for at in range(3):
                spot = [1, 1, 1]
                spot[at] = bad
                self.just(is_spot, [], [spot, [bad]])

    def test_what_is_no_spot(self):
        self.just(is_spot, [], [(), (1,), (3, 5), None, True, 1, "1", "135", b"123", {}, {1: 2}, {1}, range(3)])

    def test_of_anything_it_is_told(self):
        for thing in junk():
            for question in QUESTIONS:
                with self.subTest(question.__name__, thing=type(thing).__name__):
                    self.assertIn(question(thing), (True, False))
                    self.assertIsInstance(question(thing), bool)

    def test_junk_is_none_of_these(self):
        # Numbers and single ones among the junk apart, nothing of it is of a kind.
        for thing in junk():
            if not isinstance(thing, int) or isinstance(thing, bool):
                for question in QUESTIONS:
                    with self.subTest(question.__name__, thing=type(thing).__name__):
                        self.assertIs(question(thing), False)

    def test_nothing_handed_in_is_changed_and_the_same_is_told_again(self):
        for spot in ([3, 5], [5, 3], [1, True], [], [[1]], [0] * 7):
            ahead = copy.deepcopy(spot)
            first = [question(spot) for question in QUESTIONS]
            self.assertEqual(spot, ahead)
            self.assertEqual([question(spot) for question in QUESTIONS], first)

    def test_a_spot_that_is_changed_is_looked_at_anew(self):
        spot = [3, 5]
        self.assertIs(is_spot(spot), True)
        spot.append(4)
        self.assertIs(is_spot(spot), False)
        spot[2] = 5
        self.assertIs(is_spot(spot), True)
