"""Promises 3, 4, 21 and 23: the links of a mark on a day, and the mix of a spot at a thing of a book."""

from fractions import Fraction
from random import Random

from truechain.book import Book
from truechain.errors import NoSpot, NoThing, Wrong
from truechain.links import links, mix_at
from truechain.texts import read_paper
from tests.chance import LAST, some_papers, spot_of
from tests.helper import Case, Stubborn, book_of, junk, own_each_time, places_refused, words_of
from tests.model import Model, told

THINGS = (
    "101 0 thing st box 0 1/10 1,2,5",
    "102 0 thing ru scale 0 1 0,10",
    "103 0 thing ga scale 2 1/2 0,5,10",
    "104 0 thing bl box 1 1/3 1,2,3",
    "105 0 thing cl box 1 2 1,4",
)


class Base(Case):

    def keys(self, book, name, mark, days):
        """The keys of the links of a mark, day by day."""
        return [[link[0] for link in links(book, name, mark, day)] for day in days]

    def book(self, *texts):
        """A book of the things and more papers, all of which stand."""
        return self.standing(*THINGS, *texts)


class Rows(Base):

    def test_a_told_row(self):
        book = self.book("7 3 told st 9 : 1 1/2 3/2 : 5 5 5")
        self.assertEqual(links(book, "st", 1, 3), [(7, (1, 2), (3, 2), [])])
        self.assertEqual(links(book, "st", 5, 3), [(7, (5, 1), (5, 1), [])])
        self.assertEqual(links(book, "st", 2, 3), [])

    def test_a_held_row(self):
        book = self.book("7 3 held ga ru 9 : 0 3 -1/2 1/6 : 10 1,9,10 1/3 0")
        self.assertEqual(links(book, "ga", 0, 3),
                         [(7, (-2, 3), (-1, 3), [((7, 10), "ru", 0, 3), ((3, 10), "ru", 10, 3)])])
        self.assertEqual(links(book, "ga", 10, 3),
                         [(7, (1, 3), (1, 3), [((1, 1), "ru", 0, 3), ((2, 1), "ru", 10, 3)])])
        self.assertEqual(links(book, "ga", 5, 3), [])

    def test_a_row_held_against_a_box(self):
        book = self.book("7 3 held bl st 9 : 2 1,5 1 1/4")
        self.assertEqual(links(book, "bl", 2, 3),
                         [(7, (3, 4), (5, 4), [((1, 1), "st", 1, 3), ((1, 1), "st", 5, 3)])])

    def test_parts_are_on_the_day_of_the_link(self):
        book = self.book("7 3 held ga ru 9 : 0 5 0 0")
        self.assertEqual(links(book, "ga", 0, 8),
                         [(7, (-5, 2), (5, 2), [((1, 2), "ru", 0, 3), ((1, 2), "ru", 10, 3)])])

    def test_several_by_rising_keys(self):
        book = self.book("9 1 held ga ru 90 : 0 0 0 0", "2 4 held ga st 90 : 0 1 0 0", "5 2 held ga bl 90 : 0 2 0 0",
                         "4 2 held ga bl 90 : 5 2 0 0")
        self.assertEqual(links(book, "ga", 0, 4), [
            (2, (0, 1), (0, 1), [((1, 1), "st", 1, 4)]),
            (5, (-1, 1), (1, 1), [((1, 1), "bl", 2, 2)]),
            (9, (-3, 2), (3, 2), [((1, 1), "ru", 0, 1)])])

    def test_shapes(self):
        book = self.book("7 3 held ga ru 9 : 0 5 0 0", "8 4 told st 9 : 1 1 1")
        for found in (links(book, "ga", 0, 5), links(book, "st", 1, 5)):
            self.assertIs(type(found), list)
            for link in found:
                self.assertEqual([type(part) for part in link], [int, tuple, tuple, list])
                self.assertEqual({type(part) for part in link[3]} - {tuple}, set())

    def test_no_matter_whether_the_parts_have_links(self):
        book = self.book("7 3 held ga ru 9 : 0 0 0 0")
        self.assertEqual(links(book, "ru", 0, 3), [])
        self.assertEqual(len(links(book, "ga", 0, 3)), 1)

    def test_what_does_not_stand_is_no_link(self):
        book = book_of(*THINGS, "7 3 told bl 9 : 1 1 1", "8 3 told st 9 : 1 1 1 : 3 1 1", "9 3 held ga ga 9 : 0 0 0 0")
        self.assertEqual((links(book, "bl", 1, 4), links(book, "st", 1, 4), links(book, "ga", 0, 4)), ([], [], []))


class Days(Base):

    def test_the_term(self):
        book = self.book("7 3 told st 4 : 1 1 1", "8 5 told st 0 : 1 1 1")
        self.assertEqual(self.keys(book, "st", 1, range(10)), [[], [], [], [7], [7], [7, 8], [7], [7], [], []])

    def test_a_term_beyond_the_last_day(self):
        book = self.book("7 999999 told st 1000000 : 1 1 1", "8 1 told st 999998 : 1 1 1")
        self.assertEqual(self.keys(book, "st", 1, (999998, 999999, 10 ** 6)), [[8], [7, 8], [7]])
        self.assertEqual(links(book, "st", 1, 10 ** 6), [(7, (9, 10), (11, 10), [])])

    def test_widened_by_the_rate(self):
        book = self.book("7 3 told st 9 : 1 1 2", "8 3 held ga st 9 : 0 1 1 1/4")
        self.assertEqual([links(book, "st", 1, day)[0][1:3] for day in (3, 4, 5, 12)],
                         [((1, 1), (2, 1)), ((9, 10), (21, 10)), ((4, 5), (11, 5)), ((1, 10), (29, 10))])
        self.assertEqual([links(book, "ga", 0, day)[0][1:3] for day in (3, 4, 12)],
                         [((3, 4), (5, 4)), ((1, 4), (7, 4)), ((-15, 4), (23, 4))])

    def test_breaks_of_the_thing(self):
        for kind in ("off", "harmed", "mended"):
            for day in range(9):
                book = book_of(*THINGS, "7 3 told st 4 : 1 1 1", f"8 {day} {kind} st")
                if kind == "harmed" and day <= 3:
                    self.assertEqual(book.word(7), "harmed")
                    continue
                last = day - 1 if 3 < day <= 7 else 7
                self.assertEqual(self.keys(book, "st", 1, range(10)), [[7] if 3 <= on <= last else [] for on in range(10)])

    def test_breaks_of_other_things_do_not_count(self):
        book = self.book("7 3 held ga st 4 : 0 1 0 0", "8 4 off st", "9 4 harmed ru")
        self.assertEqual(self.keys(book, "ga", 0, (3, 4, 5, 7, 8)), [[7]] * 4 + [[]])

    def test_between_two_breaks(self):
        book = self.book("7 3 told st 90 : 1 1 1", "8 5 told st 90 : 1 1 1", "9 5 off st", "10 7 told st 90 : 1 1 1",
                         "11 8 mended st", "12 4 told st 90 : 1 1 1")
        self.assertEqual(self.keys(book, "st", 1, range(3, 10)), [[7], [7, 12], [8], [8], [8, 10], [], []])


class Lines(Base):

    def book_with_line(self, *texts):
        """A box bl, of whose pieces on day 5 ca is made, of whose pieces on day 9 da is made."""
        return book_of(*THINGS, "1 5 made ca 1/5 : 3 bl 1 : 4 bl 3", "2 9 made da 1/7 : 7 ca 4 : 8 cl 4 : 9 ca 3", *texts)

    def test_down_the_line_with_the_rates_of_each_thing(self):
        book = self.book_with_line("7 2 held bl st 90 : 1 1 0 1/2 : 3 2 10 0", "8 6 held ca st 90 : 4 5 0 0",
                                   "9 9 held da st 90 : 7 5 -1 0", "10 10 held da ru 90 : 7 5 -1 0")
        self.assertEqual(set(words_of(book).values()), {"stands"})
        bl, ca, da = Fraction(1, 3), Fraction(1, 5), Fraction(1, 7)
        for day, by in ((2, 0), (3, bl), (4, 2 * bl)):
            self.assertEqual(links(book, "bl", 3, day), [(7, told(10 - by), told(10 + by), [((1, 1), "st", 2, 2)])])
        for day, by in ((5, 3 * bl), (6, 3 * bl + ca), (7, 3 * bl + 2 * ca), (8, 3 * bl + 3 * ca)):
            self.assertEqual(links(book, "ca", 4, day)[0], (7, told(10 - by), told(10 + by), [((1, 1), "st", 2, 2)]))
            by += Fraction(1, 2)
            self.assertEqual(links(book, "ca", 3, day), [(7, told(-by), told(by), [((1, 1), "st", 1, 2)])])
        self.assertEqual(self.keys(book, "ca", 4, (5, 6, 8)), [[7], [7, 8], [7, 8]])
        self.assertEqual(links(book, "ca", 4, 8)[1], (8, told(-2 * ca), told(2 * ca), [((1, 1), "st", 5, 6)]))
        for day in (9, 10, 20):
            old, newer = 3 * bl + 4 * ca + (day - 9) * da, 3 * ca + (day - 9) * da
            own, last = (day - 9) * da, (day - 10) * da
            expected = [(7, told(10 - old), told(10 + old), [((1, 1), "st", 2, 2)]),
                        (8, told(-newer), told(newer), [((1, 1), "st", 5, 6)]),
                        (9, told(-1 - own), told(-1 + own), [((1, 1), "st", 5, 9)]),
                        (10, told(-1 - last), told(-1 + last), [((1, 2), "ru", 0, 10), ((1, 2), "ru", 10, 10)])]
            self.assertEqual(links(book, "da", 7, day), expected[:3 if day == 9 else 4])
        by = 3 * bl + 4 * ca + 3 * da + Fraction(1, 2)
        self.assertEqual(links(book, "da", 9, 12), [(7, told(-by), told(by), [((1, 1), "st", 1, 2)])])
        self.assertEqual(links(book, "da", 8, 12), [])

    def test_the_term_goes_on_down_the_line(self):
        book = self.book_with_line("7 2 held bl st 9 : 1 1 0 0")
        self.assertEqual(self.keys(book, "da", 9, range(9, 14)), [[7], [7], [7], [], []])
        self.assertEqual(self.keys(book, "ca", 3, range(5, 9)), [[7]] * 4)

    def test_breaks_of_the_elder(self):
        for day, found in ((1, [7]), (2, [7]), (3, []), (4, []), (5, [])):
            book = self.book_with_line("7 2 held bl st 90 : 1 1 0 0", f"8 {day} off bl")
            self.assertEqual(book.breaks("bl"), [day])
            self.assertEqual(self.keys(book, "ca", 3, (5, 8)), [found, found])
            self.assertEqual(self.keys(book, "da", 9, (9, 12)), [found, found])
        # On its last day the elder itself is not there any more; ahead of a break its links hold.
        book = self.book_with_line("7 2 held bl st 90 : 1 1 0 0", "8 5 off bl")
        self.assertEqual(self.keys(book, "bl", 1, (2, 3, 4)), [[7]] * 3)

    def test_breaks_of_a_thing_ahead_in_the_line(self):
        told_rows = ("7 2 held bl st 90 : 1 1 0 0", "8 6 held ca st 90 : 3 1 0 0", "9 9 held da st 90 : 9 1 0 0")
        book = self.book_with_line(*told_rows, "10 7 off ca")
        self.assertEqual(self.keys(book, "ca", 3, range(5, 9)), [[7], [7, 8], [], []])
        self.assertEqual(self.keys(book, "da", 9, (9, 10)), [[9], [9]])
        book = self.book_with_line(*told_rows, "10 6 off ca")
        self.assertEqual(self.keys(book, "ca", 3, range(5, 9)), [[7], [8], [8], [8]])
        self.assertEqual(self.keys(book, "da", 9, (9, 10)), [[8, 9], [8, 9]])
        book = self.book_with_line(*told_rows, "10 9 off ca")
        self.assertEqual(self.keys(book, "ca", 3, range(5, 9)), [[7], [7, 8], [7, 8], [7, 8]])
        self.assertEqual(self.keys(book, "da", 9, (9, 10)), [[9], [9]])
        book = self.book_with_line(*told_rows, "10 11 off da")
        self.assertEqual(self.keys(book, "da", 9, (9, 10, 11, 12)), [[7, 8, 9], [7, 8, 9], [], []])
        book = self.book_with_line(*told_rows, "10 11 off da", "11 11 held da ru 9 : 9 0 0 0")
        self.assertEqual(self.keys(book, "da", 9, (9, 10, 11, 12)), [[7, 8, 9], [7, 8, 9], [11], [11]])

    def test_holdings_of_other_marks_of_the_elder_do_not_count(self):
        book = self.book_with_line("7 2 held bl st 90 : 3 1 0 0", "8 6 held ca st 90 : 4 1 0 0", "9 3 held cl st 90 : 4 1 0 0")
        self.assertEqual(links(book, "ca", 3, 8), [])
        self.assertEqual(self.keys(book, "da", 9, (9,)), [[]])
        self.assertEqual(self.keys(book, "da", 8, (9,)), [[9]])
        self.assertEqual(links(book, "da", 8, 9)[0][1:3], ((-12, 1), (12, 1)))

    def test_of_a_standard_box(self):
        book = book_of(*THINGS, "1 5 made sa 1 : 1 st 5", "7 2 told st 90 : 5 5 6")
        self.assertEqual(links(book, "sa", 1, 8), [(7, (17, 10), (93, 10), [])])


class MixAt(Base):

    def test_it(self):
        book = self.book("1 5 made ca 0 : 1 bl 1")
        self.assertEqual(mix_at(book, "ga", [3, 5]), [(0, (2, 5)), (5, (8, 5))])
        self.assertEqual(mix_at(book, "st", [1, 5]), [(1, (1, 1)), (5, (1, 1))])
        # Ended or not.
        self.assertEqual(mix_at(book, "bl", [2]), [(2, (1, 1))])
        self.assertEqual(mix_at(book, "ca", [1]), [(1, (1, 1))])

    def test_no_thing_then_no_spot(self):
        book = self.book()
        self.refused(NoThing, mix_at, book, "zz", [1], name="zz")
        self.refused(NoThing, mix_at, book, "zz", [999], name="zz")
        for name, spot in (("st", [3]), ("st", [1, 1]), ("ga", [11]), ("ga", [0, 11]), ("ru", [1000])):
            self.refused(NoSpot, mix_at, book, name, spot)

    def test_wrong(self):
        book = self.book()
        places_refused(self, mix_at, [book, "st", [1]], junk(), Wrong)
        self.refused(Wrong, mix_at, book, "zz", [2, 1], at=2)
        self.refused(Wrong, mix_at, Book, "zz", [2, 1], at=0)

    def test_own(self):
        book = self.book()
        own_each_time(self, lambda: mix_at(book, "ga", [3, 5]))


class Refusals(Base):

    def test_no_thing_then_no_spot(self):
        book = self.book("1 5 made ca 0 : 1 bl 1", "2 7 thing zz box 0 0 1")
        for name, mark, day in (("aa", 1, 5), ("zz", 1, 6), ("zz", 999, 6), ("ca", 1, 4), ("ca", 7, 4), ("bl", 1, 5),
                                ("bl", 1, 6), ("bl", 9, 5)):
            self.refused(NoThing, links, book, name, mark, day, name=name)
        for name, mark, day in (("zz", 2, 7), ("ca", 2, 5), ("bl", 4, 4), ("st", 3, 0), ("ga", 1, 0), ("ru", 5, 9)):
            self.refused(NoSpot, links, book, name, mark, day)
        for name, mark, day in (("zz", 1, 7), ("ca", 1, 5), ("bl", 1, 4), ("st", 1, 0), ("ga", 5, 0)):
            self.assertEqual(links(book, name, mark, day), [])

    def test_wrong(self):
        book = self.book()
        places_refused(self, links, [book, "st", 1, 1], junk(), Wrong)
        self.refused(Wrong, links, book, "zz", 1001, 1, at=2)
        self.refused(Wrong, links, book, "zz", True, 1, at=2)
        self.refused(Wrong, links, book, "zz", 1, 10 ** 6 + 1, at=3)
        self.refused(Wrong, links, book, "zz", 1, -1, at=3)
        self.refused(Wrong, links, book, "ZZ", 1, -1, at=1)
        self.refused(Wrong, links, Stubborn(), "ZZ", 1, -1, at=0)
        self.refused(Wrong, links, Book, "st", 1, 1, at=0)

    def test_own(self):
        book = self.book("7 3 held ga ru 9 : 0 5 0 0", "8 3 held ga ru 9 : 0 5 0 0", "9 3 told st 9 : 1 1 1",
                         "10 3 told st 9 : 1 1 1")
        own_each_time(self, lambda: links(book, "ga", 0, 4))
        own_each_time(self, lambda: links(book, "st", 1, 4))

    def test_a_book_that_goes_on(self):
        book = self.book("7 3 told st 9 : 1 1 1")
        self.assertEqual(self.keys(book, "st", 1, (3,)), [[7]])
        book.put(read_paper("6 2 told st 9 : 1 1 1"))
        self.assertEqual(self.keys(book, "st", 1, (3,)), [[6, 7]])
        book.strike(7)
        self.assertEqual(self.keys(book, "st", 1, (3,)), [[6]])
        book.put(read_paper("7 3 off st"))
        self.assertEqual(self.keys(book, "st", 1, (3,)), [[]])


class Model21(Base):

    def test_as_the_model_tells(self):
        seen = set()
        for seed in range(200):
            chance = Random(seed)
            papers = some_papers(chance, chance.randrange(10, 55))
            model, book = Model(papers), Book()
            for one in papers:
                book.put(one)
            for name, thing in model.things.items():
                spot = spot_of(chance, thing.marks)
                if thing.fits(spot):
                    self.assertEqual(mix_at(book, name, spot),
                                     [(mark, told(weight)) for mark, weight in sorted(thing.mix(spot).items())])
                else:
                    self.refused(NoSpot, mix_at, book, name, spot)
                for day in range(LAST + 4):
                    for mark in thing.marks:
                        if not thing.has_on(day):
                            self.refused(NoThing, links, book, name, mark, day, name=name)
                            continue
                        found = [(key, told(low), told(high), [(told(Fraction(part[0])), *part[1:]) for part in parts])
                                 for key, low, high, parts in model.links(name, mark, day)]
                        self.assertEqual(links(book, name, mark, day), found)
                        seen.add((min(len(found), 3), min(len(model.line(name, mark)), 2)))
        self.assertEqual(len(seen), 8)
