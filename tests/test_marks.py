"""Promises 2, 3, 4, 5 and 13: the marks of scales and boxes, which spots fit, and the mix."""

import unittest
from fractions import Fraction
from itertools import combinations, combinations_with_replacement

from truechain.errors import NoSpot, Wrong
from truechain.kinds import is_spot
from truechain.marks import Box, Scale, marks_of
from tests.helper import Stubborn, junk, places_refused

EIGHT = [0, 1, 10, 12, 500, 501, 999, 1000]
NO_MARKS = [
    [0, 0], [1, 0], [0, 10, 10], [0, 10, 5], [10, 5, 20], [0, 2, 1, 3], [-1, 5], [5, 1001], [0, True], [False, 5],
    [True, 2], [0, None], ["0", "5"], [0, "5"], [[0], [5]], (0, 5), (0, 5, 9), {0: 1, 5: 1}, {0, 5}, "05", b"05",
    range(3), list(range(9)), EIGHT + [1001], [0] * 1001, [], None, [0, Stubborn()], [Stubborn(), 5],
]


class Base(unittest.TestCase):

    def refused(self, call, *arguments, at=0):
        with self.assertRaises(Wrong) as caught:
            call(*arguments)
        self.assertEqual(caught.exception.at, at)

    def unfit(self, marks, spot):
        """Check that a spot does not fit."""
        self.assertIs(marks.fits(spot), False)
        with self.assertRaises(NoSpot):
            marks.mix(spot)

    def fit(self, marks, spot, mix):
        """Check that a spot fits, and has this mix."""
        self.assertIs(marks.fits(spot), True)
        found = marks.mix(spot)
        self.assertEqual(found, mix)
        self.assertIs(type(found), list)
        self.assertEqual({type(row) for row in found}, {tuple})


class Making(Base):

    def test_marks(self):
        for call, some in ((Scale, ([0, 1], [0, 1000], [5, 9, 700], EIGHT)),
                           (Box, ([0], [1000], [7], [0, 1], [0, 1000], [5, 9, 700], EIGHT))):
            for marks in some:
                self.assertEqual(call(list(marks)).marks(), marks)

    def test_a_scale_of_one(self):
        self.refused(Scale, [5])
        self.assertEqual(Box([5]).marks(), [5])

    def test_refused(self):
        for call in (Scale, Box):
            places_refused(self, call, [[0, 5]], junk(), Wrong)
            for marks in NO_MARKS:
                self.refused(call, marks)

    def test_marks_of(self):
        for sort, kind in (("scale", Scale), ("box", Box)):
            found = marks_of(sort, [0, 5])
            self.assertIs(type(found), kind)
            self.assertEqual(found.marks(), [0, 5])
            for marks in NO_MARKS:
                self.refused(marks_of, sort, marks, at=1)
        self.assertEqual(marks_of("box", [5]).marks(), [5])
        self.refused(marks_of, "scale", [5], at=1)
        places_refused(self, marks_of, ["scale", [0, 5]], junk(), Wrong)
        for sort in ("Scale", "scales", "", "box ", "boxes", "ruler", ["scale"], ("box",), {}, b"box"):
            self.refused(marks_of, sort, [0, 5])
            self.refused(marks_of, sort, [5])


class ScaleSpots(Base):

    def test_at_marks(self):
        scale = Scale([0, 10, 20])
        self.fit(scale, [0], [(0, (1, 1))])
        self.fit(scale, [10], [(10, (1, 1))])
        self.fit(scale, [20], [(20, (1, 1))])
        self.fit(scale, [0, 20], [(0, (1, 1)), (20, (1, 1))])
        self.fit(scale, [10, 10, 10], [(10, (3, 1))])

    def test_between_marks(self):
        scale = Scale([0, 10, 20])
        self.fit(scale, [1], [(0, (9, 10)), (10, (1, 10))])
        self.fit(scale, [9], [(0, (1, 10)), (10, (9, 10))])
        self.fit(scale, [15], [(10, (1, 2)), (20, (1, 2))])
        self.fit(scale, [14], [(10, (3, 5)), (20, (2, 5))])
        self.fit(Scale([3, 10]), [5], [(3, (5, 7)), (10, (2, 7))])
        self.fit(Scale([0, 1000]), [999], [(0, (1, 1000)), (1000, (999, 1000))])

    def test_added_up(self):
        scale = Scale([0, 10, 20])
        self.fit(scale, [5, 5], [(0, (1, 1)), (10, (1, 1))])
        self.fit(scale, [5, 15], [(0, (1, 2)), (10, (1, 1)), (20, (1, 2))])
        self.fit(scale, [3, 10, 12], [(0, (7, 10)), (10, (21, 10)), (20, (1, 5))])
        self.fit(scale, [1, 2, 3, 4, 5, 6], [(0, (39, 10)), (10, (21, 10))])

    def test_outside(self):
        scale = Scale([5, 10, 20])
        for spot in ([4], [0], [21], [1000], [4, 10], [10, 21], [4, 21], [5, 5, 5, 5, 5, 21], [4, 5, 5, 5, 5, 5]):
            self.unfit(scale, spot)
        self.fit(scale, [5, 20], [(5, (1, 1)), (20, (1, 1))])

    def test_each_point_of_some_scales(self):
        for marks in ([0, 1000], [0, 10, 20], EIGHT, [100, 900]):
            scale = Scale(marks)
            for point in range(0, 1001):
                if not marks[0] <= point <= marks[-1]:
                    self.unfit(scale, [point])
                    continue
                found = scale.mix([point])
                # On a scale whose marks are truly worth what they say, a point is worth what it says.
                self.assertEqual(sum(Fraction(*weight) * mark for mark, weight in found), point)
                self.assertEqual(sum(Fraction(*weight) for _, weight in found), 1)
                self.assertTrue(all(weight[0] > 0 for _, weight in found))
                self.assertLessEqual(len(found), 2)
                self.assertEqual([mark for mark, _ in found],
                                 [point] if point in marks else
                                 [max(mark for mark in marks if mark < point), min(mark for mark in marks if mark > point)])


class BoxSpots(Base):

    def test_pieces(self):
        box = Box([0, 3, 8, 1000])
        self.fit(box, [3], [(3, (1, 1))])
        self.fit(box, [0, 8], [(0, (1, 1)), (8, (1, 1))])
        self.fit(box, [0, 3, 8, 1000], [(0, (1, 1)), (3, (1, 1)), (8, (1, 1)), (1000, (1, 1))])
        self.fit(Box([7]), [7], [(7, (1, 1))])

    def test_what_is_no_piece_or_stands_twice(self):
        box = Box([0, 3, 8])
        for spot in ([1], [4], [9], [1000], [3, 3], [0, 3, 3], [0, 0, 3], [0, 5, 8], [1, 3], [3, 9], [8, 8]):
            self.unfit(box, spot)


class Mixes(Base):

    def test_the_worth_at_a_spot_is_that_of_its_points(self):
        worths = {0: Fraction(1, 3), 2: Fraction(-7, 2), 5: Fraction(9), 6: Fraction(1, 1000)}
        for marks in (marks for many in (2, 3, 4) for marks in combinations(worths, many)):
            scale, box = Scale(list(marks)), Box(list(marks))
            lines = {mark: worths[mark] for mark in marks}
            for low, high in zip(marks, marks[1:]):
                for point in range(low + 1, high):
                    lines[point] = worths[low] + (worths[high] - worths[low]) * Fraction(point - low, high - low)
            for many in (1, 2, 3):
                for spot in map(list, combinations_with_replacement(range(8), many)):
                    self.compare(scale, spot, worths, lines, all(point in lines for point in spot))
                    self.compare(box, spot, worths, lines, set(spot) <= set(marks) and len(set(spot)) == len(spot))

    def compare(self, marks, spot, worths, lines, is_fit):
        if not is_fit:
            self.unfit(marks, spot)
            return
        self.assertIs(marks.fits(spot), True)
        found = marks.mix(spot)
        self.assertEqual(sum(Fraction(*weight) * worths[mark] for mark, weight in found),
                         sum(lines[point] for point in spot))
        self.assertEqual([mark for mark, _ in found], sorted({mark for mark, _ in found}))
        self.assertTrue(all(weight[0] > 0 for _, weight in found))

    def test_wrong_is_ahead_of_all_else(self):
        for marks in (Scale([5, 10]), Box([5, 10])):
            for call in (marks.fits, marks.mix):
                places_refused(self, call, [[5]], junk(), Wrong)
                for spot in ([], [10, 5], [5] * 7, [5, True], [-1], [1001], (5,), 5, "5", [None], [5, [10]],
                             [1000, 1], [Stubborn()]):
                    self.assertFalse(is_spot(spot))
                    self.refused(call, spot)


class Lists(Base):

    def test_what_is_done_to_the_list_that_was_handed_in(self):
        for call in (Scale, Box, lambda marks: marks_of("scale", marks), lambda marks: marks_of("box", marks)):
            marks = [0, 10]
            made = call(marks)
            marks[1] = 5
            marks.append(3)
            self.assertEqual(made.marks(), [0, 10])
            self.assertIs(made.fits([10]), True)
            self.assertEqual(made.mix([10]), [(10, (1, 1))])
            marks.clear()
            self.assertEqual(made.marks(), [0, 10])

    def test_what_is_done_to_a_list_that_was_told(self):
        for made in (Scale([0, 10]), Box([0, 10])):
            told = made.marks()
            self.assertIsNot(made.marks(), told)
            told.append(99)
            told[0] = 7
            self.assertEqual(made.marks(), [0, 10])
            mix = made.mix([0])
            self.assertIsNot(made.mix([0]), mix)
            mix.clear()
            self.assertEqual(made.mix([0]), [(0, (1, 1))])

    def test_nothing_handed_in_is_changed(self):
        marks, spot = [0, 10, 20], [5, 20]
        scale = Scale(marks)
        scale.fits(spot)
        scale.mix(spot)
        self.assertEqual((marks, spot), ([0, 10, 20], [5, 20]))
        spot.append(3)
        self.refused(scale.mix, spot)

    def test_two_know_nothing_of_one_another(self):
        one, other = Scale([0, 10]), Scale([5, 20])
        self.assertEqual((one.marks(), other.marks()), ([0, 10], [5, 20]))
