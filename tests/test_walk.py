"""Promises 3, 4, 6, 24 to 26: to walk rows, whoever made them, and which rows go through windows."""

import copy
from fractions import Fraction
from random import Random
from time import perf_counter

from truechain.book import Book
from truechain.chains import chain, through, walk
from truechain.ends import ends
from truechain.errors import NoChain, Wrong
from truechain.links import links
from tests.chance import LAST, fitting_papers, fitting_spot
from tests.helper import Case, Stubborn, junk
from tests.model import Model, told

ONE = (1, 1)
THINGS = (
    "101 0 thing st box 0 0 1,2,5",
    "102 0 thing ru scale 0 0 0,10",
    "103 0 thing ga scale 2 0 0,5,10",
    "104 0 thing bl box 1 0 1,2,3",
)


def wander(chance, model, parts):
    """A chain by chance: its rows, paid in an order by chance, and its ends as Python's own fractions, or None."""
    owed = [((name, mark, day), weight) for weight, name, mark, day in parts]
    rows, low, high = [], Fraction(0), Fraction(0)
    while owed:
        place, _ = chance.choice(owed)
        weight = sum(more for one, more in owed if one == place)
        found = model.links(*place)
        if not found or len(rows) > 200:
            return None
        link = chance.choice(found)
        rows.append((link[0], *place, told(weight)))
        low, high = low + weight * link[1], high + weight * link[2]
        owed = [one for one in owed if one[0] != place]
        owed.extend(((name, mark, day), share * weight) for share, name, mark, day in link[3])
    return rows, low, high


def fault_of(model, parts, rows):
    """The place of the first row that does not pay all that is owed by a link, how many there are, or None."""
    owed = {}
    for weight, *place in parts:
        owed[tuple(place)] = owed.get(tuple(place), 0) + weight
    for at, row in enumerate(rows):
        if type(row) is not tuple or len(row) != 5 or row[1:4] not in owed or told(owed[row[1:4]]) != row[4]:
            return at
        found = [link for link in model.links(*row[1:4]) if link[0] == row[0]]
        if not found:
            return at
        weight = owed.pop(row[1:4])
        for share, *place in found[0][3]:
            owed[tuple(place)] = owed.get(tuple(place), 0) + share * weight
    return len(rows) if owed else None


class Base(Case):

    def book(self, *texts):
        """A book of the things and more papers, all of which stand."""
        return self.standing(*THINGS, *texts)

    def layers(self):
        """A book of three layers, whose chain of ga 1 on day 9 has eight rows."""
        return self.book("1 1 told st 90 : 1 1 2 : 2 2 3 : 5 5 5", "2 2 held bl st 90 : 1 1,5 1/2 1/4 : 2 2 0 1",
                         "3 3 held ga bl 90 : 0 1 -1 1/8 : 5 1,2 0 0", "4 2 told st 90 : 1 0 9")


class Walk(Base):

    def test_the_ends_are_the_sums_of_the_links(self):
        book = self.layers()
        rows = [(3, "ga", 0, 9, (4, 5)), (3, "ga", 5, 9, (1, 5)), (2, "bl", 1, 3, ONE), (2, "bl", 2, 3, (1, 5)),
                (1, "st", 1, 2, ONE), (1, "st", 2, 2, (1, 5)), (1, "st", 5, 2, ONE)]
        self.assertEqual(chain(book, "ga", [1], 9, [], "near"), rows)
        # 4/5 (-9/8) + 1/4 - 1/5 + 1 + 2/5 + 5, and 4/5 (-7/8) + 3/4 + 1/5 + 2 + 3/5 + 5.
        self.assertEqual(walk(book, "ga", [1], 9, rows), ((111, 20), (157, 20)))
        self.assertIs(type(walk(book, "ga", [1], 9, rows)), tuple)
        rows[4] = (4, "st", 1, 2, ONE)
        self.assertEqual(walk(book, "ga", [1], 9, rows), ((91, 20), (297, 20)))

    def test_any_order_in_which_all_that_is_owed_is_paid(self):
        book = self.layers()
        rows = [(3, "ga", 5, 9, (1, 5)), (2, "bl", 2, 3, (1, 5)), (1, "st", 2, 2, (1, 5)), (3, "ga", 0, 9, (4, 5)),
                (2, "bl", 1, 3, ONE), (1, "st", 5, 2, ONE), (1, "st", 1, 2, ONE)]
        self.assertEqual(walk(book, "ga", [1], 9, rows), ((111, 20), (157, 20)))

    def test_a_mark_on_a_day_may_be_paid_twice_by_unlike_links(self):
        book = self.book("1 1 told st 90 : 1 1 2", "7 1 told st 90 : 1 0 9", "2 2 held bl st 90 : 1 1 0 0 : 2 1 0 1/2")
        rows = [(2, "bl", 1, 3, ONE), (1, "st", 1, 2, ONE), (2, "bl", 2, 3, ONE), (7, "st", 1, 2, ONE)]
        self.assertEqual(walk(book, "bl", [1, 2], 3, rows), ((1, 2), (23, 2)))
        rows = [(2, "bl", 1, 3, ONE), (2, "bl", 2, 3, ONE), (7, "st", 1, 2, (2, 1))]
        self.assertEqual(walk(book, "bl", [1, 2], 3, rows), ((-1, 2), (37, 2)))
        self.refused(NoChain, walk, book, "bl", [1, 2], 3, rows[:2] + [(1, "st", 1, 2, ONE), (7, "st", 1, 2, ONE)], at=2)

    def test_crossed_ends(self):
        book = self.book("1 1 told st 90 : 1 0 1", "2 1 told st 90 : 1 4 5")
        self.assertEqual(walk(book, "st", [1], 1, [(1, "st", 1, 1, ONE)]), ((0, 1), (1, 1)))
        self.assertEqual(walk(book, "st", [1], 1, [(2, "st", 1, 1, ONE)]), ((4, 1), (5, 1)))

    def test_no_rows(self):
        self.refused(NoChain, walk, self.layers(), "ga", [1], 9, [], at=0)

    def test_rows_spoilt_at_each_place_in_each_way(self):
        book = self.layers()
        rows = chain(book, "ga", [1], 9, [], "low")
        for at, row in enumerate(rows):
            key, name, mark, day, (top, bottom) = row
            for spoilt in (list(row), row[:-1], row + (0,), row + row, (), None, 7, "row", (row,), Stubborn(), [],
                           (key + 20, *row[1:]), (0, *row[1:]), (str(key), *row[1:]), (True, *row[1:]), (None, *row[1:]),
                           (10 ** 9 + 1, *row[1:]), (Stubborn(), *row[1:]), ([key], *row[1:]),
                           (key, "aa", *row[2:]), (key, "ru", *row[2:]), (key, "", *row[2:]), (key, "ST", *row[2:]),
                           (key, None, *row[2:]), (key, [name], *row[2:]), (key, Stubborn(), *row[2:]),
                           (key, name, mark + 3, *row[3:]), (key, name, -1, *row[3:]), (key, name, True, *row[3:]),
                           (key, name, 1001, *row[3:]), (key, name, [mark], *row[3:]), (key, name, str(mark), *row[3:]),
                           (key, name, mark, day + 1, row[4]), (key, name, mark, day - 1, row[4]),
                           (key, name, mark, -1, row[4]), (key, name, mark, None, row[4]), (key, name, mark, [], row[4]),
                           (key, name, mark, 10 ** 6 + 1, row[4]),
                           (*row[:4], (2 * top, 2 * bottom)), (*row[:4], (top, bottom + top)), (*row[:4], (-top, bottom)),
                           (*row[:4], (2 * top, bottom)), (*row[:4], (0, 1)), (*row[:4], top), (*row[:4], None),
                           (*row[:4], [top, bottom]), (*row[:4], (top, bottom, 1)), (*row[:4], (True, bottom)),
                           (*row[:4], Stubborn()), (*row[:4], (Stubborn(), 1)), (name, key, mark, day, row[4])):
                self.refused(NoChain, walk, book, "ga", [1], 9, rows[:at] + [spoilt] + rows[at + 1:], at=at)
                self.refused(NoChain, walk, book, "ga", [1], 9, rows[:at] + [spoilt], at=at)
                self.refused(NoChain, walk, book, "ga", [1], 9, rows[:at] + [spoilt, None], at=at)
            for thing in junk():
                self.refused(NoChain, walk, book, "ga", [1], 9, rows[:at] + [thing] + rows[at:], at=at)
            self.refused(NoChain, walk, book, "ga", [1], 9, rows[:at], at=at)
            self.refused(NoChain, walk, book, "ga", [1], 9, rows[:at + 1] + [row] + rows[at + 1:], at=at + 1)
            self.refused(NoChain, walk, book, "ga", [1], 9, rows + [row], at=len(rows))
            self.refused(NoChain, walk, book, "ga", [1], 9, rows + [None] * (1000 - len(rows)), at=len(rows))

    def test_a_row_that_pays_by_no_link_on_that_day(self):
        book = self.book("1 1 told st 3 : 1 1 2", "2 2 told st 9 : 1 1 2", "3 2 held bl st 9 : 1 1 0 0")
        for key, day, good in ((1, 4, True), (1, 5, False), (2, 1, False), (2, 2, True), (2, 11, True), (2, 12, False),
                               (3, 3, False)):
            rows = [(key, "st", 1, day, ONE)]
            if good:
                self.assertEqual(walk(book, "st", [1], day, rows), ((1, 1), (2, 1)))
            else:
                self.refused(NoChain, walk, book, "st", [1], day, rows, at=0)
        self.refused(NoChain, walk, book, "bl", [1], 3, [(3, "bl", 1, 3, ONE), (3, "st", 1, 2, ONE)], at=1)

    def test_a_row_of_another_spot(self):
        book = self.layers()
        rows = chain(book, "st", [1, 2], 9, [], "low")
        self.assertEqual(walk(book, "st", [1, 2], 9, rows), ((3, 1), (5, 1)))
        self.refused(NoChain, walk, book, "st", [1], 9, rows, at=1)
        self.refused(NoChain, walk, book, "st", [1, 2, 5], 9, rows, at=2)
        self.refused(NoChain, walk, book, "st", [2], 9, rows, at=0)
        self.refused(NoChain, walk, book, "st", [1, 2], 8, rows, at=0)

    def test_windows_of_off_papers_do_not_matter(self):
        book = self.layers()
        rows = chain(book, "ga", [1], 9, [], "low")
        book.put((9, 5, "off", "st"))
        self.assertEqual(walk(book, "ga", [1], 9, rows), ((111, 20), (157, 20)))
        book.put((10, 9, "off", "ga"))
        self.refused(NoChain, walk, book, "ga", [1], 9, rows, at=0)

    def test_nothing_is_changed(self):
        book = self.layers()
        rows, spot = chain(book, "ga", [1], 9, [], "low"), [1]
        held = copy.deepcopy(rows)
        self.assertEqual(walk(book, "ga", spot, 9, rows), walk(book, "ga", spot, 9, rows))
        spoilt = rows + [[1, 2]]
        self.refused(NoChain, walk, book, "ga", spot, 9, spoilt, at=len(rows))
        self.assertEqual((rows, spot, spoilt), (held, [1], held + [[1, 2]]))


class ByChance(Base):

    def test_chains_by_chance_and_what_spoils_them(self):
        seen = {}
        for seed in range(60):
            chance = Random(seed)
            papers = fitting_papers(chance, 40)
            model, book = Model(papers), Book()
            for one in papers:
                book.put(one)
            for name, thing in model.things.items():
                for _ in range(12):
                    day = chance.randrange(LAST + 4)
                    if thing.has_on(day):
                        spot = fitting_spot(chance, (thing.sort, 0, thing.marks))
                        found = wander(chance, model, model.wanted(name, spot, day))
                        if found is not None:
                            self.compare(chance, model, book, (name, spot, day), found, seen)
        self.assertGreater(min(seen.get(many, 0) for many in (1, 2, 3, 4, 5, 6, "twice", "faults")), 12, seen)

    def compare(self, chance, model, book, asked, found, seen):
        rows, low, high = found
        self.assertEqual(walk(book, *asked, rows), (told(low), told(high)))
        reached = ends(book, *asked, [])
        self.assertGreaterEqual(Fraction(*reached[0]), low)
        self.assertLessEqual(Fraction(*reached[1]), high)
        for what in (min(len(rows), 6), len({row[1:4] for row in rows}) < len(rows) and "twice"):
            seen[what] = seen.get(what, 0) + 1
        for _ in range(4):
            spoilt = list(rows)
            way = chance.randrange(4)
            at = chance.randrange(len(rows))
            if way == 0:
                del spoilt[at]
            elif way == 1:
                spoilt.insert(chance.randrange(len(rows) + 1), rows[at])
            elif way == 2:
                chance.shuffle(spoilt)
            else:
                spoilt[at] = (chance.choice(book.kept()), *spoilt[at][1:])
            fault = fault_of(model, model.wanted(*asked), spoilt)
            if fault is None:
                walk(book, *asked, spoilt)
            else:
                self.refused(NoChain, walk, book, *asked, spoilt, at=fault)
                seen["faults"] = seen.get("faults", 0) + 1


class Long(Base):

    def book_of_eights(self):
        """A book in which each mark of a scale leads to all eight marks of the next one, or to fewer."""
        marks = list(range(8))
        book, key = Book(), 0
        for level, name in enumerate(("a", "b", "c", "d")):
            key += 1
            book.put((key, 0, "thing", name, "box", level, (0, 1), marks))
        book.put((10, 1, "told", "a", 90, [(mark, ONE, ONE) for mark in marks]))
        for spot, more in ((marks[:6], 0), ([0], 1), ([0, 1], 2)):
            for at, (name, finer) in enumerate((("b", "a"), ("c", "b"), ("d", "c"))):
                book.put((20 + 10 * at + more, 1, "held", name, finer, 90, [(mark, spot, (0, 1), (0, 1)) for mark in marks]))
        return book

    def straight_down(self, book, spot, links_above_a):
        """Rows in which each part is paid down to the told ends ahead of the next one."""
        rows, fewer = [], list(links_above_a)

        def pay(name, mark, weight):
            if name == "a":
                key = 10
            elif name == "b":
                key = fewer.pop() if fewer else 20
            else:
                key = {"c": 30, "d": 40}[name]
            rows.append((key, name, mark, 1, weight))
            for link in links(book, name, mark, 1):
                if link[0] == key:
                    for _, finer, below, _ in link[3]:
                        pay(finer, below, ONE)

        for mark in spot:
            pay("d", mark, ONE)
        return rows

    def test_a_thousand_rows(self):
        book = self.book_of_eights()
        spot = [0, 1, 2, 3]
        # Four marks of d: each of 1 + 6 (1 + 6 (1 + 6)) rows, less what the shorter links of b spare: five or four.
        for shorter, many in (([21] * 8 + [22], 992), ([21] * 4 + [22] * 4, 1000), ([21] * 3 + [22] * 5, 1001)):
            rows = self.straight_down(book, spot, shorter)
            self.assertEqual(len(rows), 4 * 259 - 5 * shorter.count(21) - 4 * shorter.count(22))
            if many > 1000:
                self.assertEqual(len(rows), many)
                self.refused(Wrong, walk, book, "d", spot, 1, rows, at=4)
                self.refused(NoChain, walk, book, "d", spot, 1, rows[:1000], at=1000)
            else:
                leaves = len([row for row in rows if row[1] == "a"])
                self.assertEqual(len(rows), many)
                self.assertEqual(walk(book, "d", spot, 1, rows), ((leaves, 1), (leaves, 1)))
                self.refused(NoChain, walk, book, "d", spot, 1, rows[:-1], at=many - 1)

    def test_a_thousand_things_are_walked_quickly(self):
        book = self.book_of_eights()
        rows = self.straight_down(book, [0, 1, 2, 3], [21] * 4 + [22] * 4)
        began = perf_counter()
        for _ in range(20):
            walk(book, "d", [0, 1, 2, 3], 1, rows)
        self.assertLess(perf_counter() - began, 20)


class Through(Base):

    def test_rows_that_go_through_a_window(self):
        rows = chain(self.layers(), "ga", [1], 9, [], "near")
        # ga 0 and ga 5 on day 9, bl 1 and bl 2 on day 3, st 1, st 2 and st 5 on day 2.
        for shut, found in (
                ([], []), ([("ga", 0, 9, 10)], [0]), ([("ga", 0, 10, 11)], []), ([("ga", 0, 8, 9)], []),
                ([("ga", 5, 0, 10 ** 6 + 1)], [1]), ([("ga", 10, 0, 90)], []), ([("bl", 1, 3, 4)], [2]),
                ([("bl", 1, 3, 3)], []), ([("bl", 1, 4, 3)], []), ([("bl", 1, 9, 0)], []), ([("bl", 1, 2, 3)], []),
                ([("zz", 1, 0, 90)], []), ([("st", 999, 0, 90)], []), ([("st", 3, 0, 90)], []),
                ([("st", 5, 2, 3), ("ga", 0, 0, 90)], [0, 6]), ([("ga", 0, 0, 90), ("st", 5, 2, 3)], [0, 6]),
                ([("st", 1, 0, 90)] * 1000, [4]), ([("st", mark, 0, 90) for mark in (5, 2, 1)], [4, 5, 6]),
                ([(name, mark, 0, 90) for name in ("st", "bl", "ga") for mark in (0, 1, 2, 5)], [0, 1, 2, 3, 4, 5, 6])):
            self.assertEqual(through(rows, shut), found, shut)
            self.assertEqual(through(rows[:1], shut), found[:1] if found[:1] == [0] else [])
        self.assertEqual(through([], [("st", 1, 0, 90)]), [])

    def test_a_mark_on_two_days(self):
        book = self.book("1 1 told st 90 : 1 1 2", "2 4 held bl st 90 : 1 1 0 0", "3 2 held bl st 90 : 2 1 0 0")
        rows = chain(book, "bl", [1, 2], 5, [], "low")
        for shut, found in (([("st", 1, 2, 4)], [2]), ([("st", 1, 3, 5)], [3]), ([("st", 1, 2, 5)], [2, 3]),
                            ([("st", 1, 4, 5), ("st", 1, 2, 3)], [2, 3]), ([("bl", 1, 0, 90), ("bl", 2, 0, 5)], [0])):
            self.assertEqual(through(rows, shut), found, shut)

    def test_a_window_of_an_elder_is_none_of_the_box(self):
        book = self.book("1 2 told st 90 : 1 1 4", "2 5 made sa 0 : 7 st 1")
        rows = chain(book, "sa", [7], 8, [], "low")
        self.assertEqual(through(rows, [("st", 1, 0, 90), ("sa", 1, 0, 90)]), [])
        self.assertEqual(through(rows, [("sa", 7, 8, 9)]), [0])
