"""Promises 2, 3, 14 and 15: papers, what is wrong in what is none, their order of time, names and copies."""

import copy
import itertools
import unittest
from random import Random

from truechain.papers import copy_of, fault_in, is_ahead, names_in
from tests.helper import Stubborn, junk, lists_in

MOST = 10 ** 12
SMALL = ([(0, 1), (1, 1), (MOST, 1), (1, 1000), (MOST - 1, 1000), (7, 3)],
         [(MOST + 1, 1), (1, 1001), (2, 4), (0, 2), (1, 0), (1, -2), (-1, -2), 0, 1, 7, [1, 2], (1,), (1, 2, 3),
          (True, 1), (1, True), "1/2", (None, 1)])
NEGATIVE = [(-1, 1), (-MOST, 1), (-1, 1000), (-7, 3)]
TOO_NEGATIVE = [(-MOST - 1, 1), (-1, 1001)]
# Of each kind of part some things that it may be, and some that it may not.
KEYS = ([1, 2, 10 ** 9 - 1, 10 ** 9], [0, -1, 10 ** 9 + 1, True, "1", (1,), [1]])
DAYS = ([0, 1, 10 ** 6 - 1, 10 ** 6], [-1, 10 ** 6 + 1, True, False, "0", (0,), [0]])
NAMES = (["a", "z", "gauge", "abcdefgh", "held", "scale"],
         ["", "abcdefghi", "Gauge", "a1", "a b", " a", "a\n", 7, ["a"], ("a",), b"a", True])
SORTS = (["scale", "box"], ["", "Scale", "boxes", "rule", True, 7, ["box"], ("box",), b"box"])
LEVELS = ([0, 1, 2, 3, 4, 5], [-1, 6, 100, True, False, "0", (0, 1), [0]])
WIDTHS = (SMALL[0], SMALL[1] + NEGATIVE + TOO_NEGATIVE)
ENDS = (SMALL[0] + NEGATIVE, SMALL[1] + TOO_NEGATIVE)
POINTS = ([0, 1, 999, 1000], [-1, 1001, True, False, "0", (0,), [0], (0, 1)])
SPOTS = ([[0], [1000], [3, 3], [3, 5], [0, 0, 1, 2, 3, 1000]],
         [[], [5, 3], [0] * 7, [-1], [1001], [True], ["0"], [[0]], (0,), 0, "0", {}, {0: 1}])
SCALES = ([[0, 1], [0, 1000], [1, 2, 3, 4, 5, 6, 7, 8]],
          [[5], [1, 2, 3, 4, 5, 6, 7, 8, 9], [0, 0], [1, 0], [0, 2, 1], [], [-1, 0], [0, 1001], [0, True], (0, 1),
           [0, "1"], [[0], [1]], {0: 1, 1: 1}, "01"])
BOXES = ([[5], *SCALES[0]], SCALES[1][1:])
ROWS = [[], (), {}, None, "rows", 7, [()], [None], [[]], [Stubborn()], [(Stubborn(), Stubborn(), Stubborn())]]
PARTS = {
    "thing": [NAMES, SORTS, LEVELS, WIDTHS, SCALES],
    "told": [NAMES, DAYS, ([[(0, (0, 1), (1, 1))]], ROWS)],
    "held": [NAMES, NAMES, DAYS, ([[(0, [1], (0, 1), (1, 1))]], ROWS)],
    "made": [NAMES, WIDTHS, ([[(0, "old", 4)]], ROWS)],
    "read": [NAMES, SPOTS],
    "off": [NAMES],
    "harmed": [NAMES],
    "mended": [NAMES],
}
ROW_PARTS = {
    "told": [POINTS, ENDS, ENDS],
    "held": [POINTS, SPOTS, ENDS, WIDTHS],
    "made": [POINTS, NAMES, POINTS],
}
GOOD = [
    (3, 0, "thing", "gauge", "scale", 2, (1, 1000), [0, 10, 20]),
    (4, 0, "thing", "block", "box", 0, (0, 1), [5]),
    (5, 1, "told", "block", 30, [(3, (29, 10), (31, 10)), (5, (5, 1), (5, 1))]),
    (7, 12, "held", "gauge", "block", 90, [(0, [5], (-1, 2), (1, 100)), (10, [3, 5], (0, 1), (1, 100))]),
    (9, 30, "made", "case", (0, 1), [(1, "old", 4), (2, "older", 4), (3, "old", 5)]),
    (8, 13, "read", "gauge", [3, 5]),
    (1, 14, "off", "gauge"),
    (2, 15, "harmed", "gauge"),
    (6, 16, "mended", "gauge"),
]
ORDER = ("thing", "off", "harmed", "mended", "made", "told", "held", "read")


def parts_of(paper):
    """What the parts of a good paper may be and may not be, the kind's word left out."""
    parts = list(PARTS[paper[2]])
    if "box" in paper:
        parts[-1] = BOXES
    return [KEYS, DAYS, ([paper[2]], []), *parts]


def with_part(paper, at, part):
    return paper[:at] + (part,) + paper[at + 1:]


class Faults(unittest.TestCase):

    def fault(self, thing, at):
        found = fault_in(thing)
        self.assertEqual(found, at, thing)
        self.assertIsNot(type(found), bool)

    def test_papers(self):
        self.assertEqual({paper[2] for paper in GOOD}, set(ORDER))
        for paper in GOOD:
            self.fault(paper, None)

    def test_each_part_within_and_beyond_its_bounds(self):
        for paper in GOOD:
            for at, (good, bad) in enumerate(parts_of(paper)):
                for part in good:
                    # A box of one mark is no scale: of the sorts a test of their own tells.
                    if good is not SORTS[0]:
                        self.fault(with_part(paper, at, part), None)
                for part in bad + [None, Stubborn()]:
                    if at != 2:
                        self.fault(with_part(paper, at, part), at)

    def test_a_sort_wants_its_marks(self):
        for sort, marks, at in (("scale", [5], 7), ("box", [5], None), ("scale", [5, 6], None), ("box", [5, 6], None),
                                ("rule", [5], 4), ("box", [], 7), ("scale", [], 7)):
            self.fault((1, 1, "thing", "gauge", sort, 0, (0, 1), marks), at)

    def test_the_first_of_two_wrong_parts_is_told(self):
        for paper in GOOD:
            parts = parts_of(paper)
            for one, other in itertools.combinations([at for at in range(len(parts)) if at != 2], 2):
                for first, second in itertools.product(parts[one][1][:4], parts[other][1][:4]):
                    self.fault(with_part(with_part(paper, one, first), other, second), one)

    def test_junk_in_each_part(self):
        for paper in GOOD:
            for at in range(len(paper)):
                for thing in junk():
                    self.fault(with_part(paper, at, thing), at)
                    spoilt = paper[:at] + (thing,) * (len(paper) - at)
                    self.fault(spoilt, 2 if at <= 2 else at)

    def test_what_is_no_tuple(self):
        for paper in GOOD:
            self.fault(list(paper), 2)
            self.fault(str(paper), 2)
            self.fault(dict(enumerate(paper)), 2)
            self.fault([paper], 2)
            self.fault((paper,), 2)
        for thing in junk():
            self.fault(thing, 2)
        for thing in ("7 1 off gauge", b"7", {"off": 1}, None, True, 2, len):
            self.fault(thing, 2)

    def test_what_has_no_third_part(self):
        for thing in ((), (1,), (1, 2), ("off", "off")):
            self.fault(thing, 2)

    def test_an_unknown_word(self):
        for word in ("", "Off", "offs", "off ", "broken", "key", "name", None, True, 7, ["off"], ("off",), b"off",
                     {"off": 1}, Stubborn()):
            for paper in GOOD:
                self.fault(with_part(paper, 2, word), 2)
                self.fault((0, -1, word) + paper[3:], 2)

    def test_the_word_of_another_kind(self):
        for paper in GOOD:
            for word in ORDER:
                if len(PARTS[word]) != len(PARTS[paper[2]]):
                    self.fault(with_part(paper, 2, word), 2)
        self.fault(with_part(GOOD[2], 2, "made"), 4)
        self.fault(with_part(GOOD[4], 2, "told"), 4)
        self.fault(with_part(GOOD[6], 2, "harmed"), None)

    def test_parts_left_out_or_told_twice(self):
        for paper in GOOD:
            for at in range(len(paper)):
                self.fault(paper[:at] + paper[at + 1:], 2)
                self.fault(paper[:at] + paper[at:at + 1] + paper[at:], 2)
            self.fault(paper + (None,), 2)
            self.fault((0,) + paper[1:] + (None,), 2)
            self.fault((0,) + paper[1:-1], 2)

    def test_parts_turned_about(self):
        for paper in GOOD:
            turned = paper[::-1]
            if turned[2] != paper[2]:
                self.fault(turned, 2)
        self.fault((3, 10 ** 6 + 1, "off", "gauge"), 1)
        self.fault((10 ** 6 + 1, 3, "off", "gauge"), None)
        self.fault((3, 1, "off", "gauge", "block"), 2)
        self.fault((7, 12, "held", "gauge", 90, "block", GOOD[3][6]), 4)
        self.fault((3, 0, "thing", "scale", "gauge", 2, (1, 1000), [0, 10]), 4)
        self.fault((3, 0, "thing", "gauge", "scale", (1, 1000), 2, [0, 10]), 5)
        self.fault((5, 1, "told", 30, "block", GOOD[2][5]), 3)


class Rows(unittest.TestCase):

    def fault(self, kind, rows, is_good):
        paper = next(paper for paper in GOOD if paper[2] == kind)
        at = None if is_good else len(paper) - 1
        self.assertEqual(fault_in(paper[:-1] + (rows,)), at, rows)
        self.assertEqual(fault_in((0,) + paper[1:-1] + (rows,)), 0)

    def rows(self, kind, many):
        """So many good rows."""
        return [{"told": (at, (0, 1), (1, 1)), "held": (at, [1, 1], (0, 1), (1, 1)), "made": (at, "x" + "abcdefghi"[at % 9], at)}[kind]
                for at in range(many)]

    def test_how_many(self):
        for kind in ROW_PARTS:
            for many in (0, 1, 2, 7, 8, 9, 10, 1001):
                self.fault(kind, self.rows(kind, many), 1 <= many <= 8)

    def test_what_is_no_list(self):
        for kind in ROW_PARTS:
            for rows in (tuple(self.rows(kind, 2)), dict.fromkeys(range(2)), iter(self.rows(kind, 1)), None, True,
                         self.rows(kind, 1)[0], list(self.rows(kind, 1)[0])):
                self.fault(kind, rows, False)

    def test_each_part_of_each_row(self):
        for kind, parts in ROW_PARTS.items():
            for many, at in ((1, 0), (3, 0), (3, 1), (3, 2)):
                for place, (good, bad) in enumerate(parts):
                    rows = self.rows(kind, many)
                    for part in good:
                        if place == 0 and many == 3 or kind == "told" and place > 0:
                            break
                        self.fault(kind, rows[:at] + [with_part(rows[at], place, part)] + rows[at + 1:], True)
                    for part in bad + [None, Stubborn()] + junk():
                        self.fault(kind, rows[:at] + [with_part(rows[at], place, part)] + rows[at + 1:], False)

    def test_rows_that_are_no_tuples_of_as_many_parts(self):
        for kind in ROW_PARTS:
            rows = self.rows(kind, 3)
            for at in range(3):
                row = rows[at]
                for bad in (list(row), row[:-1], row[1:], row + row[-1:], row + (None,), (), None, "row", (row,), [row],
                            row[0], Stubborn(), True):
                    self.fault(kind, rows[:at] + [bad] + rows[at + 1:], False)

    def test_marks_that_do_not_rise(self):
        for kind in ROW_PARTS:
            rows = self.rows(kind, 4)
            self.fault(kind, rows, True)
            for order in itertools.permutations(range(4)):
                self.fault(kind, [rows[at] for at in order], order == (0, 1, 2, 3))
            for at in range(3):
                self.fault(kind, rows[:at + 1] + [with_part(rows[at + 1], 0, rows[at][0])] + rows[at + 2:], False)

    def test_told_ends(self):
        worths = [(-MOST, 1), (-1, 2), (-1, 3), (0, 1), (1, 1000), (1, 3), (1, 2), (1, 1), (MOST, 1)]
        for low, high in itertools.product(range(len(worths)), repeat=2):
            self.fault("told", [(0, worths[low], worths[high])], low <= high)
            self.fault("told", [(0, (0, 1), (0, 1)), (5, worths[low], worths[high])], low <= high)

    def test_a_box_is_not_made_of_itself(self):
        for rows in ([(0, "case", 4)], [(0, "old", 4), (1, "case", 4)], [(0, "case", 4), (1, "old", 4)],
                     [(0, "old", 4), (1, "case", 5), (2, "older", 4)]):
            self.fault("made", rows, False)
            # Of another box this may be a made paper.
            self.assertIsNone(fault_in((9, 30, "made", "other", (0, 1), rows)))
        self.fault("made", [(0, "cas", 4), (1, "cased", 4)], True)

    def test_a_piece_is_not_taken_twice(self):
        self.fault("made", [(0, "old", 4), (1, "old", 4)], False)
        self.fault("made", [(0, "old", 4), (1, "older", 4), (2, "old", 4)], False)
        self.fault("made", [(0, "a", 1), (1, "b", 4), (2, "c", 4), (3, "b", 5), (4, "c", 4)], False)
        self.fault("made", [(0, "old", 4), (1, "older", 4), (2, "old", 5), (3, "older", 5)], True)
        self.fault("made", [(4, "old", 4), (5, "old", 5)], True)

    def test_one_finer_than_itself_is_a_paper(self):
        self.assertIsNone(fault_in((7, 12, "held", "gauge", "gauge", 0, [(0, [5], (0, 1), (0, 1))])))


class Time(unittest.TestCase):

    def ahead(self, one, other, found):
        self.assertIs(is_ahead(one, other), found, (one, other))

    def test_days(self):
        for one, other in itertools.product(GOOD, repeat=2):
            for days in ((0, 1), (9, 10), (99, 10 ** 6)):
                early, late = with_part(one, 1, days[0]), with_part(other, 1, days[1])
                self.ahead(early, late, True)
                self.ahead(late, early, False)

    def test_kinds(self):
        for one, other in itertools.product(GOOD, repeat=2):
            for key in (1, 10 ** 9):
                found = ORDER.index(one[2]) < ORDER.index(other[2])
                if one[2] != other[2]:
                    self.ahead((key, 5) + one[2:], (500, 5) + other[2:], found)

    def test_keys(self):
        for paper in GOOD:
            for key, other, found in ((1, 2, True), (2, 1, False), (9, 10, True), (10, 9, False), (7, 7, False)):
                self.ahead(with_part(paper, 0, key), with_part(paper, 0, other), found)

    def test_names_do_not_count(self):
        self.ahead((1, 5, "off", "b"), (2, 5, "off", "a"), True)
        self.ahead((2, 5, "off", "a"), (1, 5, "off", "b"), False)

    def test_sorted_as_by_day_kind_and_key(self):
        chance = Random(3)
        papers = [(key, chance.randrange(3)) + chance.choice(GOOD)[2:] for key in range(1, 60)]
        for one, other in itertools.product(papers, repeat=2):
            places = [(paper[1], ORDER.index(paper[2]), paper[0]) for paper in (one, other)]
            self.ahead(one, other, places[0] < places[1])


class Names(unittest.TestCase):

    def test_of_each_kind(self):
        self.assertEqual([names_in(paper) for paper in GOOD], [
            ["gauge"], ["block"], ["block"], ["block", "gauge"], ["case", "old", "older"], ["gauge"], ["gauge"],
            ["gauge"], ["gauge"]])

    def test_each_once_and_sorted(self):
        self.assertEqual(names_in((7, 12, "held", "b", "b", 0, GOOD[3][6])), ["b"])
        self.assertEqual(names_in((7, 12, "held", "b", "a", 0, GOOD[3][6])), ["a", "b"])
        self.assertEqual(names_in((7, 12, "held", "a", "b", 0, GOOD[3][6])), ["a", "b"])
        rows = [(0, "z", 1), (1, "b", 1), (2, "z", 2), (3, "a", 1)]
        self.assertEqual(names_in((7, 12, "made", "m", (0, 1), rows)), ["a", "b", "m", "z"])
        self.assertEqual(names_in((7, 12, "made", "zz", (0, 1), rows)), ["a", "b", "z", "zz"])

    def test_words_are_no_names(self):
        self.assertEqual(names_in((3, 0, "thing", "a", "scale", 2, (1, 1000), [0, 10, 20])), ["a"])
        self.assertEqual(names_in((3, 0, "thing", "scale", "scale", 2, (1, 1000), [0, 10, 20])), ["scale"])

    def test_a_new_list_each_time(self):
        for paper in GOOD:
            found = names_in(paper)
            first = list(found)
            found.append("more")
            self.assertEqual(names_in(paper), first)


class Copies(unittest.TestCase):

    def test_the_same_with_lists_of_its_own(self):
        many = {"thing": 1, "told": 1, "held": 3, "made": 1, "read": 1}
        for paper in GOOD:
            copies = [copy_of(paper), copy_of(paper), paper]
            for found in copies:
                self.assertEqual(found, paper)
                self.assertIs(type(found), tuple)
                self.assertIsNone(fault_in(found))
                self.assertEqual(len(lists_in(found)), many.get(paper[2], 0))
            marks = [id(part) for found in copies for part in lists_in(found)]
            self.assertEqual(len(set(marks)), len(marks))

    def test_a_spot_that_stands_twice(self):
        spot = [3, 5]
        paper = (7, 12, "held", "gauge", "block", 90, [(0, spot, (0, 1), (0, 1)), (1, spot, (0, 1), (0, 1))])
        found = copy_of(paper)
        found[6][0][1].append(9)
        self.assertEqual(found[6][1][1], [3, 5])
        self.assertEqual(spot, [3, 5])

    def test_what_is_done_to_one_changes_no_other_one(self):
        for paper in GOOD:
            ahead = copy.deepcopy(paper)
            one, other = copy_of(paper), copy_of(paper)
            for part in lists_in(one):
                part.clear()
            self.assertEqual(paper, ahead)
            self.assertEqual(other, ahead)
            for part in lists_in(other):
                part.append(None)
            self.assertEqual(paper, ahead)

    def test_nothing_handed_in_is_changed(self):
        for paper in GOOD:
            ahead = copy.deepcopy(paper)
            fault_in(paper)
            names_in(paper)
            is_ahead(paper, GOOD[0])
            self.assertEqual(paper, ahead)
