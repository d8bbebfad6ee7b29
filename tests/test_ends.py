"""Promises 3, 4, 5, 9, 10, 22 and 23: the ends of a spot on a day, some windows shut."""

import copy
from fractions import Fraction
from random import Random
from time import perf_counter

from truechain.book import Book
from truechain.ends import ends
from truechain.errors import NoSpot, NoThing, Wrong
from truechain.links import links, mix_at
from truechain.texts import read_paper
from tests.chance import LAST, SHAPES, some_papers, spot_of
from tests.helper import Case, book_of, words_of
from tests.model import Model
from tests.world import DAYS, World

THINGS = (
    "101 0 thing st box 0 0 1,2,5",
    "102 0 thing ru scale 0 0 0,10",
    "103 0 thing ga scale 2 0 0,5,10",
    "104 0 thing bl box 1 0 1,2,3",
)


class Base(Case):

    def book(self, *texts):
        """A book of the things and more papers, all of which stand."""
        return self.standing(*THINGS, *texts)


class OneLevel(Base):

    def test_one_link(self):
        book = self.book("1 3 told st 9 : 1 1/2 3/2 : 5 5 6")
        self.assertEqual(ends(book, "st", [1], 3, []), ((1, 2), (3, 2)))
        self.assertEqual(ends(book, "st", [1, 5], 7, []), ((11, 2), (15, 2)))
        self.assertIs(type(ends(book, "st", [1], 3, [])), tuple)

    def test_no_chain(self):
        book = self.book("1 3 told st 9 : 1 1/2 3/2 : 5 5 6")
        for spot, day in (([2], 3), ([1, 2], 3), ([1, 2, 5], 5), ([1], 2), ([1], 13), ([1, 5], 13)):
            self.assertIsNone(ends(book, "st", spot, day, []))

    def test_between_marks(self):
        book = self.book("1 3 told ru 9 : 0 -1 1 : 10 9 12")
        self.assertEqual(ends(book, "ru", [5], 3, []), ((4, 1), (13, 2)))
        self.assertEqual(ends(book, "ru", [1], 3, []), ((0, 1), (21, 10)))
        self.assertEqual(ends(book, "ru", [0, 5, 10], 3, []), ((12, 1), (39, 2)))
        self.assertEqual(ends(book, "ru", [3, 3, 3, 3, 3, 3], 3, []), ((12, 1), (129, 5)))

    def test_a_mark_that_is_wanted_needs_no_other(self):
        book = self.book("1 3 told ru 9 : 0 -1 1")
        self.assertEqual(ends(book, "ru", [0, 0], 3, []), ((-2, 1), (2, 1)))
        self.assertIsNone(ends(book, "ru", [1], 3, []))

    def test_the_outermost_of_several_links(self):
        book = self.book("1 3 told st 9 : 1 0 5", "2 3 told st 9 : 1 -2 4", "3 3 told st 9 : 1 1 9")
        self.assertEqual(ends(book, "st", [1], 3, []), ((1, 1), (4, 1)))

    def test_crossed(self):
        book = self.book("1 3 told st 9 : 1 0 1", "2 3 told st 9 : 1 2 3")
        self.assertEqual(ends(book, "st", [1], 3, []), ((2, 1), (1, 1)))

    def test_each_mark_by_a_link_of_its_own(self):
        book = self.book("1 3 told st 9 : 1 0 9 : 2 5 6", "2 3 told st 9 : 1 1 2 : 2 0 9")
        self.assertEqual(ends(book, "st", [1, 2], 3, []), ((6, 1), (8, 1)))


class SeveralLevels(Base):

    def test_through_two_levels(self):
        book = self.book("1 1 told st 90 : 1 1 2 : 5 5 5", "2 2 held bl st 90 : 1 1,5 1/2 1/4",
                         "3 3 held ga bl 90 : 0 1 -1 1/8")
        # bl 1: from 6 + 1/4 to 7 + 3/4; ga 0: 1 + 1/8 less, 1 - 1/8 less.
        self.assertEqual(ends(book, "bl", [1], 3, []), ((25, 4), (31, 4)))
        self.assertEqual(ends(book, "ga", [0], 3, []), ((41, 8), (55, 8)))

    def test_a_mark_below_is_looked_at_on_the_day_of_the_link(self):
        book = self.book("1 1 told st 1 : 1 1 2", "2 2 held bl st 90 : 1 1 0 0", "3 3 held bl st 90 : 2 1 0 0",
                         "4 3 told st 1 : 1 7 8")
        self.assertEqual(ends(book, "bl", [1], 50, []), ((1, 1), (2, 1)))
        self.assertEqual(ends(book, "bl", [2], 50, []), ((7, 1), (8, 1)))
        self.assertEqual(ends(book, "bl", [1, 2], 50, []), ((8, 1), (10, 1)))

    def test_no_chain_where_a_part_has_none(self):
        texts = ("2 2 held bl st 90 : 1 1,5 0 0", "3 3 held ga bl 90 : 0 1 0 0")
        book = self.book("1 1 told st 90 : 1 1 2", *texts)
        self.assertIsNone(ends(book, "ga", [0], 3, []))
        self.assertIsNone(ends(book, "bl", [1], 3, []))
        book = self.book("1 1 told st 90 : 1 1 2", "4 2 told st 0 : 5 5 6", *texts)
        self.assertEqual(ends(book, "ga", [0], 3, []), ((6, 1), (8, 1)))
        book = self.book("1 1 told st 90 : 1 1 2", "4 3 told st 0 : 5 5 6", *texts)
        self.assertIsNone(ends(book, "ga", [0], 3, []))

    def test_a_link_without_chains_beside_one_with(self):
        book = self.book("1 1 told st 90 : 1 1 2", "2 2 held bl st 90 : 1 5 0 0", "3 2 held bl st 90 : 1 1 0 1")
        self.assertEqual(ends(book, "bl", [1], 3, []), ((0, 1), (3, 1)))

    def test_weights_are_multiplied(self):
        book = self.book("1 1 told ru 90 : 0 0 1 : 10 10 12", "2 2 held ga ru 90 : 0 2 0 0 : 5 5,5 1 1/2")
        # ru 2: from 2 to 4/5 + 12/5; ru 5,5: from 10 to 13.
        self.assertEqual(ends(book, "ga", [0], 2, []), ((2, 1), (16, 5)))
        self.assertEqual(ends(book, "ga", [5], 2, []), ((21, 2), (29, 2)))
        self.assertEqual(ends(book, "ga", [1], 2, []), ((37, 10), (273, 50)))

    def test_widened_at_each_level(self):
        book = book_of("101 0 thing st box 0 1/10 1", "104 0 thing bl box 1 1/3 1", "1 1 told st 90 : 1 1 1",
                       "2 4 held bl st 90 : 1 1 0 0")
        self.assertEqual(ends(book, "bl", [1], 4, []), ((7, 10), (13, 10)))
        self.assertEqual(ends(book, "bl", [1], 6, []), ((1, 30), (59, 30)))

    def test_crossed_ends_below(self):
        book = self.book("1 1 told st 90 : 1 0 1", "2 1 told st 90 : 1 3 4", "3 2 held bl st 90 : 1 1,2 0 1/2",
                         "4 1 told st 90 : 2 0 0")
        self.assertEqual(ends(book, "bl", [1], 2, []), ((5, 2), (3, 2)))

    def test_down_a_line(self):
        book = self.book("1 1 told st 90 : 1 1 2", "2 2 held bl st 90 : 1 1 0 1", "3 5 made ca 1 : 7 bl 1 : 8 bl 2")
        self.assertEqual(ends(book, "ca", [7], 5, []), ((0, 1), (3, 1)))
        self.assertEqual(ends(book, "ca", [7], 7, []), ((-2, 1), (5, 1)))
        self.assertIsNone(ends(book, "ca", [7, 8], 7, []))


class Windows(Base):

    def book_of_two_ways(self):
        """A book in which ga 0 has two chains, one by st 1 on day 2, one by ru 0 on day 3."""
        return self.book("1 1 told st 90 : 1 1 4", "2 1 told ru 90 : 0 0 3", "3 2 held ga st 90 : 0 1 0 0",
                         "4 3 held ga ru 90 : 0 0 0 0")

    def test_one_of_two_chains(self):
        book = self.book_of_two_ways()
        both, by_st, by_ru = ((1, 1), (3, 1)), ((1, 1), (4, 1)), ((0, 1), (3, 1))
        for shut, found in (([], both), ([("st", 1, 2, 3)], by_ru), ([("ru", 0, 3, 4)], by_st),
                            ([("st", 1, 0, 90)], by_ru), ([("st", 1, 0, 2)], both), ([("st", 1, 3, 90)], both),
                            ([("st", 1, 2, 2)], both), ([("st", 1, 3, 2)], both), ([("st", 1, 90, 0)], both),
                            ([("st", 1, 0, 0)], both), ([("st", 1, 0, 10 ** 6 + 1)], by_ru),
                            ([("st", 1, 10 ** 6 + 1, 10 ** 6 + 1)], both), ([("st", 2, 0, 90)], both),
                            ([("ru", 10, 0, 90)], both), ([("zz", 1, 0, 90)], both), ([("st", 999, 0, 90)], both),
                            ([("st", 1, 2, 3), ("ru", 0, 3, 4)], None), ([("ru", 0, 3, 4)] * 1000, by_st),
                            ([("st", 1, 5, 6), ("st", 1, 2, 3)], by_ru), ([("st", 1, 2, 3), ("st", 1, 5, 6)], by_ru)):
            self.assertEqual(ends(book, "ga", [0], 9, shut), found, shut)

    def test_a_window_of_the_mark_itself(self):
        book = self.book_of_two_ways()
        for shut, found in (([("ga", 0, 9, 10)], None), ([("ga", 0, 8, 9)], ((1, 1), (3, 1))),
                            ([("ga", 0, 10, 11)], ((1, 1), (3, 1))), ([("ga", 0, 2, 4)], ((1, 1), (3, 1))),
                            ([("ga", 5, 0, 90)], ((1, 1), (3, 1)))):
            self.assertEqual(ends(book, "ga", [0], 9, shut), found, shut)

    def test_the_day_is_that_on_which_the_link_is_told(self):
        book = self.book_of_two_ways()
        # The told papers are of day 1, but st 1 is looked at on day 2.
        self.assertEqual(ends(book, "ga", [0], 9, [("st", 1, 1, 2)]), ((1, 1), (3, 1)))
        self.assertEqual(ends(book, "st", [1], 9, [("st", 1, 1, 2)]), ((1, 1), (4, 1)))
        self.assertIsNone(ends(book, "st", [1], 9, [("st", 1, 9, 10)]))

    def test_a_link_further_down_the_line_is_told_of_the_mark_itself(self):
        book = self.book("1 2 told st 90 : 1 1 4", "2 5 made sa 0 : 7 st 1")
        for shut, found in (([("st", 1, 0, 90)], ((1, 1), (4, 1))), ([("sa", 7, 8, 9)], None),
                            ([("sa", 1, 0, 90)], ((1, 1), (4, 1))), ([("sa", 7, 0, 8)], ((1, 1), (4, 1)))):
            self.assertEqual(ends(book, "sa", [7], 8, shut), found, shut)

    def test_a_shut_mark_shuts_what_needs_it(self):
        book = self.book("1 1 told st 90 : 1 1 4 : 2 1 1", "2 2 held bl st 90 : 1 1,2 0 0 : 2 2 0 0",
                         "3 3 held ga bl 90 : 0 1 0 0 : 5 2 0 0")
        self.assertEqual(ends(book, "ga", [0], 5, []), ((2, 1), (5, 1)))
        for window in (("st", 1, 2, 3), ("st", 2, 2, 3), ("bl", 1, 3, 4), ("ga", 0, 5, 6)):
            self.assertIsNone(ends(book, "ga", [0], 5, [window]), window)
        for window in (("st", 1, 3, 9), ("bl", 2, 0, 9), ("ga", 5, 0, 9), ("st", 5, 0, 9)):
            self.assertEqual(ends(book, "ga", [0], 5, [window]), ((2, 1), (5, 1)), window)
        self.assertIsNone(ends(book, "ga", [1], 5, [("bl", 2, 0, 9)]))
        self.assertEqual(ends(book, "ga", [5], 5, [("st", 1, 0, 9)]), ((1, 1), (1, 1)))

    def test_a_shut_mark_shuts_all_its_links(self):
        book = self.book("1 1 told st 90 : 1 1 4", "2 3 told st 90 : 1 2 5")
        self.assertIsNone(ends(book, "st", [1], 5, [("st", 1, 5, 6)]))


class Refusals(Base):

    def test_refusals_in_their_order(self):
        self.spot_refused(ends, [("st", 1, 0, 1)])

    def test_what_is_no_list_of_windows(self):
        self.windows_refused(ends)

    def test_a_spot_without_a_chain_is_not_refused(self):
        book = self.book("1 5 made ca 0 : 1 bl 1", "2 7 thing zz box 0 0 1")
        for name, spot, day in (("zz", [1], 7), ("ca", [1], 5), ("bl", [1, 3], 4), ("ga", [7], 0)):
            self.assertIsNone(ends(book, name, spot, day, []))

    def test_nothing_is_changed_and_the_same_is_told_again(self):
        book = self.book("1 1 told ru 90 : 0 0 1 : 10 10 12", "2 2 held ga ru 90 : 0 2 0 0 : 5 5,5 1 1/2")
        spot, shut = [1, 3], [("st", 1, 0, 1), ("ru", 0, 7, 8)]
        ahead = copy.deepcopy((spot, shut, words_of(book), book.thing("ga"), links(book, "ga", 0, 3)))
        first = ends(book, "ga", spot, 2, shut)
        self.assertIsNotNone(first)
        self.assertEqual((spot, shut, words_of(book), book.thing("ga"), links(book, "ga", 0, 3)), ahead)
        self.assertEqual(ends(book, "ga", spot, 2, shut), first)
        shut.append(("ru", 0, 2, 3))
        self.assertIsNone(ends(book, "ga", spot, 2, shut))
        spot.clear()
        self.refused(Wrong, ends, book, "ga", spot, 2, shut, at=2)

    def test_a_book_that_goes_on(self):
        book = self.book("1 1 told st 90 : 1 1 4")
        self.assertEqual(ends(book, "st", [1], 5, []), ((1, 1), (4, 1)))
        book.put(read_paper("2 2 told st 90 : 1 2 7"))
        self.assertEqual(ends(book, "st", [1], 5, []), ((2, 1), (4, 1)))
        book.strike(1)
        self.assertEqual(ends(book, "st", [1], 5, []), ((2, 1), (7, 1)))
        book.put(read_paper("3 4 off st"))
        self.assertIsNone(ends(book, "st", [1], 5, []))


class Model22(Base):

    def test_the_chains_gone_through_one_by_one(self):
        seen = {}
        for seed in range(220):
            chance = Random(seed)
            papers = some_papers(chance, chance.randrange(10, 55))
            if seed % 2:
                # Fewer breaks, so that more chains are left.
                papers = [one for one in papers if one[2] not in ("off", "harmed", "mended")]
            model, book = Model(papers), Book()
            for one in papers:
                book.put(one)
            for name, thing in model.things.items():
                for day in range(LAST + 4):
                    spot = spot_of(chance, thing.marks)
                    if not thing.has_on(day):
                        self.refused(NoThing, ends, book, name, spot, day, [], name=name)
                    elif not thing.fits(spot):
                        self.refused(NoSpot, ends, book, name, spot, day, [])
                    else:
                        self.compare(chance, model, book, name, spot, day, seen)
        self.assertGreater(min(seen.get(many, 0) for many in range(6)), 20, seen)

    def compare(self, chance, model, book, name, spot, day, seen):
        for many in (0, 1, 4):
            shut = []
            for _ in range(many):
                other, first = chance.choice(list(model.things)), chance.randrange(LAST + 2)
                mark = chance.choice(model.things[other].marks)
                shut.append((other, mark, first, first + chance.choice((0, 1, 3, 20))))
            chains = model.many(model.wanted(name, spot, day), shut, {})
            if chains <= 500:
                self.assertEqual(ends(book, name, spot, day, shut), model.ends(name, spot, day, shut))
                seen[min(chains.bit_length(), 5)] = seen.get(min(chains.bit_length(), 5), 0) + 1


class Truth(Base):

    def test_true_worths_lie_within_the_ends(self):
        seen = {}
        for seed in range(120):
            chance = Random(seed)
            world, book = World(chance), Book()
            order = list(world.papers)
            chance.shuffle(order)
            for one in order:
                book.put(one)
            self.assertEqual(set(words_of(book).values()), {"stands"})
            for name in world.shapes:
                for day in range(world.begins[name], world.ends.get(name, DAYS)):
                    for _ in range(2):
                        spot = world.spot(name)
                        found = ends(book, name, spot, day, [])
                        worth = world.worth(name, spot, day)
                        self.assertEqual(worth, sum(Fraction(*weight) * world.worths[name, mark, day]
                                                    for mark, weight in mix_at(book, name, spot)))
                        if found is not None:
                            self.assertLessEqual(Fraction(*found[0]), worth)
                            self.assertLessEqual(worth, Fraction(*found[1]))
                            is_made = len(book.line(name, world.shapes[name][2][0])) > 1
                            for what in (world.shapes[name][1], is_made and "made",
                                         worth in (Fraction(*found[0]), Fraction(*found[1])) and "at an end"):
                                seen[what] = seen.get(what, 0) + 1
        self.assertGreater(min(seen.get(what, 0) for what in (0, 1, 2, 3, "made", "at an end")), 20, seen)


class Changes(Base):

    def test_told_and_held_papers_take_nothing_away_and_breaks_bring_nothing(self):
        seen = {}
        for seed in range(60):
            chance = Random(seed)
            papers = some_papers(chance, 45)
            book = Book()
            for one in papers[:-15]:
                book.put(one)
            for one in papers[-15:]:
                ahead = self.all_ends(book)
                stands = book.would(one) == "stands"
                book.put(one)
                behind = self.all_ends(book)
                if not stands or one[2] == "read":
                    self.assertEqual(behind, ahead)
                elif one[2] in ("told", "held"):
                    self.assertEqual(list(behind), list(ahead))
                    for place in ahead:
                        self.assertTrue(self.is_nearer(behind[place], ahead[place]))
                        seen[one[2]] = seen.get(one[2], 0) + (behind[place] != ahead[place])
                elif one[2] == "off":
                    for place in ahead:
                        self.assertTrue(self.is_nearer(ahead[place], behind[place]))
                        seen["off"] = seen.get("off", 0) + (behind[place] != ahead[place])
        self.assertGreater(min(seen.get(kind, 0) for kind in ("told", "held", "off")), 20, seen)

    def all_ends(self, book):
        """The ends of some spots of each thing on each day."""
        found = {}
        for name in SHAPES:
            try:
                marks = book.thing(name)[3]
            except NoThing:
                continue
            for day in range(LAST + 2):
                if book.there(name, day):
                    for spot in ([marks[0]], [marks[-1]], sorted({marks[0], marks[-1]})):
                        found[name, day, tuple(spot)] = ends(book, name, spot, day, [])
        return found

    def is_nearer(self, one, other):
        """Whether the one ends are as near as the other ones, or nearer, or there were none."""
        if one is None or other is None:
            return other is None
        return Fraction(*one[0]) >= Fraction(*other[0]) and Fraction(*one[1]) <= Fraction(*other[1])


class Time(Base):

    def test_chains_that_are_far_too_many_to_go_through(self):
        marks = [0, 3, 10, 17, 31, 50, 77, 100]
        names = ["za", "zb", "zc", "zd", "ze", "zf"]
        papers = [(0, "thing", name, "scale", level, (1, 997), marks) for level, name in enumerate(names)]
        for at in range(9):
            papers.append((at, "told", "za", 10 ** 6, [(mark, (mark - at, 1), (mark + at + 1, 1)) for mark in marks]))
            for level in range(1, 6):
                papers.append((100 * level + at, "held", names[level], names[level - 1], 10 ** 6,
                               [(mark, [1, 20, 40, 60, 80, 99][at % 3:][:1 + mark % 3], (at + 1, 991), (at + 1, 983))
                                for mark in marks]))
        book = Book()
        for key, one in enumerate(papers, 1):
            book.put((key, *one))
        self.assertEqual(len(book.kept()), 60)
        self.assertEqual(set(words_of(book).values()), {"stands"})
        chains = Model([book.paper(key) for key in book.kept()]).many(
            [((1, 1), "zf", mark, 5000) for mark in marks], [], {})
        self.assertGreater(chains, 10 ** 100)
        began = perf_counter()
        for day in range(5000, 5005):
            self.assertIsNotNone(ends(book, "zf", [1, 20, 40, 60, 80, 99], day, []))
            self.assertIsNotNone(ends(book, "zf", [1, 20, 40, 60, 80, 99], day, [("zc", 3, 0, 250)] * 1000))
        # Far more than is needed where each mark on a day is looked at once.
        self.assertLess(perf_counter() - began, 60)
