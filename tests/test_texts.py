"""Promises 3, 4 and 16: the texts of fractions and of papers, and the papers of texts."""

import copy
import itertools
import sys
import unittest
from math import gcd
from random import Random

from truechain.errors import NoText, Wrong
from truechain.papers import fault_in
from truechain.texts import read_paper, show_fraction, show_paper
from tests.helper import Stubborn, junk, places_refused

MOST = 10 ** 12
PAPERS = {
    "7 12 held gauge block 90 : 0 5 -1/2 1/100 : 10 3,5 0 1/100":
        (7, 12, "held", "gauge", "block", 90, [(0, [5], (-1, 2), (1, 100)), (10, [3, 5], (0, 1), (1, 100))]),
    "3 0 thing gauge scale 2 1/1000 0,10,20":
        (3, 0, "thing", "gauge", "scale", 2, (1, 1000), [0, 10, 20]),
    "9 30 made case 0 : 1 old 4":
        (9, 30, "made", "case", (0, 1), [(1, "old", 4)]),
    "4 0 thing block box 0 0 5": (4, 0, "thing", "block", "box", 0, (0, 1), [5]),
    "5 1 told block 30 : 3 29/10 31/10 : 5 -5 5":
        (5, 1, "told", "block", 30, [(3, (29, 10), (31, 10)), (5, (-5, 1), (5, 1))]),
    "9 30 made case 1/2 : 1 old 4 : 2 older 4 : 3 old 5":
        (9, 30, "made", "case", (1, 2), [(1, "old", 4), (2, "older", 4), (3, "old", 5)]),
    "8 13 read gauge 3,5": (8, 13, "read", "gauge", [3, 5]),
    "8 13 read gauge 0": (8, 13, "read", "gauge", [0]),
    "8 13 read gauge 3,3,3,3,3,1000": (8, 13, "read", "gauge", [3, 3, 3, 3, 3, 1000]),
    "1 14 off gauge": (1, 14, "off", "gauge"),
    "2 15 harmed gauge": (2, 15, "harmed", "gauge"),
    "6 16 mended gauge": (6, 16, "mended", "gauge"),
    "1000000000 1000000 off abcdefgh": (10 ** 9, 10 ** 6, "off", "abcdefgh"),
    "1 0 thing off scale 5 1000000000000 0,1,2,3,4,5,6,1000":
        (1, 0, "thing", "off", "scale", 5, (MOST, 1), [0, 1, 2, 3, 4, 5, 6, 1000]),
    "1 0 told a 1000000 : 1000 -1000000000000 1000000000000":
        (1, 0, "told", "a", 10 ** 6, [(1000, (-MOST, 1), (MOST, 1))]),
    "1 0 told a 0 : 0 -999999999999/1000 999999999999/1000":
        (1, 0, "told", "a", 0, [(0, (1 - MOST, 1000), (MOST - 1, 1000))]),
    "1 0 held off told 0 : 1 0,0,0,0,0,0 -7/3 0": (1, 0, "held", "off", "told", 0, [(1, [0] * 6, (-7, 3), (0, 1))]),
}


class Fractions(unittest.TestCase):

    def test_examples(self):
        for worth, text in (((0, 1), "0"), ((1, 1), "1"), ((-1, 1), "-1"), ((1, 2), "1/2"), ((-1, 2), "-1/2"),
                            ((7, 3), "7/3"), ((10, 1), "10"), ((-100, 7), "-100/7"), ((1, 1000), "1/1000"),
                            ((10 ** 60 + 1, 10 ** 60), f"{10 ** 60 + 1}/{10 ** 60}"), ((-(10 ** 60), 1), f"-1{'0' * 60}")):
            self.assertEqual(show_fraction(worth), text)

    def test_of_up_to_3910_figures(self):
        long = "123456789" * 434 + "1234"
        self.assertEqual(len(long), 3910)
        most = int(long)
        self.assertEqual(show_fraction((most, 1)), long)
        self.assertEqual(show_fraction((-most, 1)), "-" + long)
        self.assertEqual(gcd(most, most - 1), 1)
        self.assertEqual(show_fraction((most - 1, most)), long[:-1] + "3/" + long)
        self.assertEqual(show_fraction((10 ** 3910 - 1, 1)), "9" * 3910)
        self.assertEqual(show_fraction((10 ** 3909, 10 ** 3910 - 1)), "1" + "0" * 3909 + "/" + "9" * 3910)

    def test_refused(self):
        places_refused(self, show_fraction, [(1, 2)], junk(), Wrong)
        for thing in ((2, 4), (0, 2), (1, 0), (1, -1), (True, 1), (1, True), [1, 2], "1/2", 1, 0, None, (1,), (1, 2, 3)):
            with self.assertRaises(Wrong) as caught:
                show_fraction(thing)
            self.assertEqual(caught.exception.at, 0)


class Base(unittest.TestCase):

    def refused(self, thing):
        with self.assertRaises(NoText, msg=repr(thing)[:80] if isinstance(thing, str) else None):
            read_paper(thing)


class Both(Base):

    def test_examples(self):
        for text, paper in PAPERS.items():
            self.assertIsNone(fault_in(paper))
            self.assertEqual(show_paper(paper), text)
            found = read_paper(text)
            self.assertEqual(found, paper)
            self.assertIs(type(found), tuple)

    def test_all_kinds_are_among_them(self):
        self.assertEqual(len({paper[2] for paper in PAPERS.values()}), 8)

    def test_many_papers(self):
        chance = Random(16)
        for _ in range(3000):
            paper = some_paper(chance)
            self.assertIsNone(fault_in(paper))
            text = show_paper(paper)
            self.assertEqual(text, plainly(paper))
            self.assertEqual(read_paper(text), paper)

    def test_parts_of_what_is_read_are_plain(self):
        for text in PAPERS:
            check_plain(self, read_paper(text))

    def test_what_is_read_is_the_askers_own(self):
        for text, paper in PAPERS.items():
            found = read_paper(text)
            for part in found:
                if isinstance(part, list):
                    part.clear()
            self.assertEqual(read_paper(text), paper)

    def test_nothing_handed_in_is_changed(self):
        for paper in PAPERS.values():
            ahead = copy.deepcopy(paper)
            self.assertEqual(show_paper(paper), show_paper(paper))
            self.assertEqual(paper, ahead)


class Refused(Base):

    def test_what_is_no_text(self):
        for thing in junk():
            self.refused(thing)
        for text, paper in PAPERS.items():
            for thing in (paper, [text], (text,), text.encode(), text.split(" "), {text: 1}, list(text)):
                self.refused(thing)
        for thing in (None, True, 7, Stubborn(), [], ()):
            self.refused(thing)

    def test_blanks(self):
        for text in PAPERS:
            self.refused(" " + text)
            self.refused(text + " ")
            self.refused(" ")
            for at, sign in enumerate(text):
                if sign == " ":
                    self.refused(text[:at] + " " + text[at:])
                    self.refused(text[:at] + text[at + 1:])
                    self.refused(text[:at] + "\n" + text[at + 1:])

    def test_one_sign_more(self):
        for text in PAPERS:
            for at in range(len(text) + 1):
                for sign in " \n,:/-+_.=(":
                    self.again(text[:at] + sign + text[at:])
                if not text[at - 1:at].isalpha() and not text[at:at + 1].isalpha():
                    for sign in "aZ":
                        self.again(text[:at] + sign + text[at:])
                for sign in "0123456789":
                    self.again(text[:at] + sign + text[at:])

    def test_one_sign_less_or_another_one(self):
        for text in PAPERS:
            for at in range(len(text)):
                self.again(text[:at] + text[at + 1:])
                for sign in " \n,:/-+01259azA_.":
                    self.again(text[:at] + sign + text[at + 1:])

    def again(self, text):
        """Check that a text is refused, or read to a paper whose text it is, as plainly written."""
        try:
            paper = read_paper(text)
        except NoText:
            return
        self.assertIsNone(fault_in(paper))
        self.assertEqual(plainly(paper), text)

    def test_numbers_written_otherwise(self):
        good = "5 1 told block 30 : 3 29/10 31/10 : 5 1/2 5"
        read_paper(good)
        words = good.split(" ")
        for at, word in enumerate(words):
            if word[0].isdigit():
                for bad in ("0" + word, "+" + word, " " + word, word + " ", word + ".", word + "\n", "\n" + word,
                            word + "_0", word + "e1", word + ",", "," + word, word + "/", "/" + word, "--" + word, "-",
                            "", "/", "0x1", "1e1", "-0", "+0", "00", "01", "0/1", "-0/1", "1/1", "7/1", "2/4", "0/2",
                            "6/3", "1/0", "1/-2", "-1/-2", "1/02", "01/2", "1/+2", "1//2", "1/2/3", "1/2/", "1 /2",
                            "1/ 2", "-", "- 1", "-/2", "one"):
                    self.refused(" ".join(words[:at] + [bad] + words[at + 1:]))
        for at in (0, 1, 4, 6):
            for bad in ("-1", "1/2", "1,2", "-5"):
                self.refused(" ".join(words[:at] + [bad] + words[at + 1:]))

    def test_points_written_otherwise(self):
        for head, tail in (("8 13 read gauge ", ""), ("3 0 thing gauge scale 2 1/1000 ", ""),
                           ("7 12 held gauge block 90 : 0 ", " -1/2 1/100")):
            read_paper(head + "3,5" + tail)
            for bad in ("", ",", "3,", ",5", "3,,5", ",3,5", "3,5,", "3, 5", "3 ,5", "3 5", "03,5", "3,05", "+3,5",
                        "3,+5", "-3,5", "3,-5", "-0,5", "5,3", "3;5", "3/1,5", "1/2,5", "3,1001", "3,a", "a", "3:5",
                        "3,5\n", "[3,5]", "3.5", "3,5,7,9,11,13,15,17,19"):
                self.refused(head + bad + tail)

    def test_a_word_left_out_told_twice_or_turned_about(self):
        for text in PAPERS:
            words = text.split(" ")
            for at in range(len(words)):
                self.refused(" ".join(words[:at] + words[at + 1:]))
                self.refused(" ".join(words[:at] + words[at:at + 1] + words[at:]))
                if words[at] != ":" or ":" not in words[:at]:
                    self.refused(" ".join(words[:at]))
                self.refused(" ".join(words[:at] + [""] + words[at:]))
                self.refused(" ".join(words[:at] + [""] + words[at + 1:]))
            self.refused(text + " " + text)
            self.refused(text + "\n" + text)
            self.refused(text + " :")
            self.refused(text + " 0")
            if words != words[::-1]:
                self.refused(" ".join(words[::-1]))

    def test_rows_without_their_word(self):
        text = "7 12 held gauge block 90 : 0 5 -1/2 1/100 : 10 3,5 0 1/100"
        words = text.split(" ")
        for at in (6, 11):
            self.assertEqual(words[at], ":")
            for bad in ("", "::", ";", ":0", "0", "a", ".", ",", "held", ": :"):
                self.refused(" ".join(words[:at] + [bad] + words[at + 1:]))
            self.refused(" ".join(words[:at] + words[at + 1:]))
        self.refused(text.replace(" : 10", " :10"))
        self.refused(text.replace(" : 0", ": 0"))

    def test_how_many_rows(self):
        for many in range(11):
            text = "5 1 told block 30" + "".join([f" : {mark} 0 1" for mark in range(many)])
            if 1 <= many <= 8:
                self.assertEqual(len(read_paper(text)[5]), many)
            else:
                self.refused(text)

    def test_numbers_beyond_their_bounds(self):
        self.assertEqual(read_paper("1000000000 1000000 off a"), (10 ** 9, 10 ** 6, "off", "a"))
        for text in ("0 1 off a", "1000000001 1 off a", "1 1000001 off a", "1 0 told a 1000001 : 0 0 1",
                     "1 0 told a 1 : 1001 0 1", "1 0 told a 1 : 0 -1000000000001 0", "1 0 told a 1 : 0 0 1000000000001",
                     "1 0 told a 1 : 0 0 1/1001", "1 0 told a 1 : 0 1 0", "1 0 told a 1 : 1 0 1 : 0 0 1",
                     "1 0 thing a scale 6 0 0,1", "1 0 thing a scale 0 -1 0,1", "1 0 thing a scale 0 0 0",
                     "1 0 thing a scale 0 0 0,1,2,3,4,5,6,7,8", "1 0 thing a box 0 0 1,0", "1 0 thing a box 0 0 1001",
                     "1 0 thing a rule 0 0 1,2", "1 0 read a 1001", "1 0 read a 2,1", "1 0 read a 1,1,1,1,1,1,1",
                     "1 0 held a b 0 : 0 1 0 -1", "1 0 held a b 0 : 0 1 0 1/1001", "1 0 made a 0 : 0 a 1",
                     "1 0 made a 0 : 0 b 1 : 1 b 1", "1 0 off abcdefghi", "1 0 off A", "1 0 off a1", "1 0 offs a",
                     "1 0 Off a", "1 0 key a", "", ":", "1", "1 0", "1 0 off"):
            self.refused(text)

    def test_long_words(self):
        for many in (14, 15, 100, 3909, 3910):
            for figures in ("1" * many, "9" * many, "0" * many, "1" + "0" * (many - 1), "0" * (many - 1) + "1"):
                for word in (figures, "-" + figures, "1/" + figures, figures + "/" + figures, figures + "/7",
                             "1," + figures, figures + ",1"):
                    for text in PAPERS:
                        words = text.split(" ")
                        for at in range(len(words)):
                            self.refused(" ".join(words[:at] + [word] + words[at + 1:]))
            self.refused("9" * many)
            self.refused("1 0 off " + "a" * many)
        self.assertGreaterEqual(sys.get_int_max_str_digits(), 3910)

    def test_many_words(self):
        self.refused("1 0 told a 1" + " : 0 0 1" * 5000)
        self.refused("1 0 read a " + ",".join(["5"] * 5000))
        self.refused(" ".join(["1"] * 5000))


def plainly(paper):
    """The text of a paper, written out kind by kind."""
    head = f"{paper[0]} {paper[1]} {paper[2]} {paper[3]}"
    if paper[2] == "thing":
        return f"{head} {paper[4]} {paper[5]} {worth(paper[6])} {points(paper[7])}"
    if paper[2] == "told":
        return f"{head} {paper[4]}" + "".join(f" : {m} {worth(low)} {worth(high)}" for m, low, high in paper[5])
    if paper[2] == "held":
        return f"{head} {paper[4]} {paper[5]}" + "".join(
            f" : {m} {points(spot)} {worth(by)} {worth(slack)}" for m, spot, by, slack in paper[6])
    if paper[2] == "made":
        return f"{head} {worth(paper[4])}" + "".join(f" : {m} {elder} {piece}" for m, elder, piece in paper[5])
    if paper[2] == "read":
        return f"{head} {points(paper[4])}"
    return head


def worth(fraction):
    top, bottom = fraction
    return f"{top}" if bottom == 1 else f"{top}/{bottom}"


def points(some):
    return ",".join(f"{point}" for point in some)


def check_plain(case, thing):
    """Check that a thing is made of plain tuples, lists, ints and texts."""
    case.assertIn(type(thing), (tuple, list, int, str))
    if not isinstance(thing, (int, str)):
        for part in thing:
            check_plain(case, part)


def some_paper(chance):
    """A paper by chance."""
    def name():
        return "".join(chance.choice("abcz") for _ in range(chance.randrange(1, 9)))

    def small(least=-MOST):
        top, bottom = chance.choice((0, 1, -3, chance.randrange(least, MOST + 1))), chance.randrange(1, 1001)
        top = abs(top) if least == 0 else top
        common = gcd(top, bottom)
        return (top // common, bottom // common)

    def marks(fewest=1):
        return sorted(chance.sample(range(1001), chance.randrange(fewest, 9)))

    def spot():
        return sorted(chance.choice((0, 7, 1000, chance.randrange(1001))) for _ in range(chance.randrange(1, 7)))

    def told_row(mark):
        low, high = sorted((small(), small()), key=lambda one: one[0] * 10 ** 9 // one[1])
        return (mark, low, high if low[0] * high[1] <= high[0] * low[1] else low)

    kind = chance.choice(("thing", "told", "held", "made", "read", "off", "harmed", "mended"))
    sort = chance.choice(("scale", "box"))
    pieces = chance.sample(list(itertools.product(("p", "q"), range(20))), 8)
    rest = {
        "thing": (name(), sort, chance.randrange(6), small(0), marks(2 if sort == "scale" else 1)),
        "told": (name(), chance.randrange(10 ** 6 + 1), [told_row(mark) for mark in marks()]),
        "held": (name(), name(), chance.randrange(99), [(mark, spot(), small(), small(0)) for mark in marks()]),
        "made": ("made", small(0),
                 [(mark, *pieces.pop()) for mark in marks()]),
        "read": (name(), spot()),
    }.get(kind, (name(),))
    return (chance.randrange(1, 10 ** 9 + 1), chance.randrange(10 ** 6 + 1), kind, *rest)
