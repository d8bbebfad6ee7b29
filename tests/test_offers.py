"""Promises 3, 4, 8, 32 and 33: offers, how near they bring a spot, and the wishes that are met by them."""

import copy
from random import Random

from truechain.book import Book
from truechain.chains import chain, nearest
from truechain.doubts import all_windows
from truechain.errors import NoOffer, NoSpot, NoThing, TooMany, Wrong
from truechain.offers import met, near_with
from truechain.texts import read_paper
from tests.chance import some_trial
from tests.helper import NO_OFFERS, NO_WISHES, Case, book_of, junk, own_each_time, places_refused, words_of
from tests.teller import Teller

ONE, NOUGHT = (1, 1), (0, 1)
THINGS = (
    "101 0 thing st box 0 0 1,2,5",
    "102 0 thing ru scale 0 0 0,10",
    "103 0 thing ga scale 2 1 0,5,10",
    "104 0 thing bl box 1 0 1,2,3",
    "105 0 told st 1000 : 1 0 1 : 2 0 2 : 5 0 5",
    "106 0 told ru 1000 : 0 0 1 : 10 8 10",
)


def offer(key, name, finer, *rows):
    """An offer with rows (mark, spot, top of the slack)."""
    return (key, name, finer, [(mark, spot, (top, 1)) for mark, spot, top in rows])


class Base(Case):

    def book(self, *texts):
        """A book of the things and more papers, all of which stand."""
        return self.standing(*THINGS, *texts)


class CanBeHeld(Base):

    def held(self, book, day, offers):
        """Check that all offers can be held, whatever is asked."""
        self.assertEqual(met(book, day, offers, []), [])
        near_with(book, day, offers, "ru", [0])

    def not_held(self, book, day, offers, at):
        """Check that the offer at this place is the first that can't be held."""
        self.refused(NoOffer, met, book, day, offers, [], at=at)
        self.refused(NoOffer, met, book, day, offers, [("aa", [999], NOUGHT)], at=at)
        self.refused(NoOffer, near_with, book, day, offers, "aa", [999], at=at)
        good = offer(999, "ga", "ru", (0, [0], 0))
        if at == 0:
            self.not_held(book, day, [good] + offers, 1)

    def test_some_that_can(self):
        book = self.book("1 4 off st")
        for day in (0, 4, 9, 10 ** 6):
            self.held(book, day, [])
            self.held(book, day, [offer(10, "ga", "bl", (0, [1], 0)), offer(11, "ga", "bl", (0, [1], 0), (5, [1, 2, 3], 7)),
                                  offer(12, "bl", "st", (1, [1, 5], 0)), offer(10 ** 9, "bl", "ru", (3, [0, 3, 3, 10], 1))])
        self.held(book, 9, [offer(key, "ga", "ru", (10, [7], 0)) for key in range(1000, 1008)])

    def test_keys(self):
        book = book_of(*THINGS, "7 4 off zz")
        good = offer(10, "ga", "ru", (0, [0], 0))
        for key in (101, 105, 7):
            self.not_held(book, 9, [offer(key, "ga", "ru", (0, [0], 0))], 0)
        self.not_held(book, 9, [good, good], 1)
        self.not_held(book, 9, [good, offer(11, "bl", "st", (1, [1], 0)), offer(10, "bl", "st", (1, [1], 0))], 2)
        self.held(book, 9, [good, offer(11, "ga", "ru", (0, [0], 0))])
        # The offer ahead is refused first, even if its key stands once more behind.
        self.not_held(book, 9, [offer(10, "ga", "zz", (0, [0], 0)), good], 0)

    def test_things_that_are_not_there(self):
        book = self.book("1 4 thing la box 3 0 1", "2 6 made ca 0 : 1 bl 1")
        for day, can in ((3, False), (4, True), (5, True)):
            (self.held if can else self.not_held)(book, day, [offer(10, "la", "bl", (1, [1], 0))], *[0] * (not can))
        for name, finer in (("zz", "ru"), ("ga", "zz"), ("zz", "zz")):
            self.not_held(book, 9, [offer(10, name, finer, (0, [0], 0))], 0)
        for day, can in ((5, True), (6, False), (7, False)):
            for one in (offer(10, "bl", "st", (1, [1], 0)), offer(10, "ga", "bl", (0, [1], 0))):
                (self.held if can else self.not_held)(book, day, [one], *[0] * (not can))
        for day, can in ((5, False), (6, True)):
            for one in (offer(10, "ca", "st", (1, [1], 0)), offer(10, "ga", "ca", (0, [1], 0))):
                (self.held if can else self.not_held)(book, day, [one], *[0] * (not can))

    def test_things_that_are_harmed(self):
        book = self.book("1 4 harmed bl", "2 7 mended bl")
        for day, can in ((3, True), (4, False), (6, False), (7, True)):
            for one in (offer(10, "bl", "st", (1, [1], 0)), offer(10, "ga", "bl", (0, [1], 0))):
                (self.held if can else self.not_held)(book, day, [one], *[0] * (not can))
        self.held(book, 5, [offer(10, "ga", "ru", (0, [1], 0))])

    def test_what_does_not_fit(self):
        book = self.book("1 4 thing la box 1 0 1")
        for one in (offer(10, "ga", "ga", (0, [0], 0)), offer(10, "bl", "ga", (1, [0], 0)), offer(10, "bl", "la", (1, [1], 0)),
                    offer(10, "la", "bl", (1, [1], 0)), offer(10, "st", "ru", (1, [1], 0)), offer(10, "ga", "ru", (1, [1], 0)),
                    offer(10, "ga", "ru", (0, [1], 0), (1, [1], 0)), offer(10, "ga", "ru", (0, [11], 0)),
                    offer(10, "ga", "bl", (0, [0], 0)), offer(10, "ga", "bl", (0, [1, 1], 0)),
                    offer(10, "ga", "bl", (0, [1], 0), (5, [4], 0))):
            self.not_held(book, 9, [one], 0)

    def test_too_many(self):
        book = self.book(*[f"{key} 900 read st 1" for key in range(1000, 1050)])
        self.assertEqual(len(book.kept()), 56)
        offers = [offer(key, "ga", "ru", (0, [0], 0)) for key in range(10, 18)]
        for many in range(5):
            self.held(book, 9, offers[:many])
        for many in range(5, 9):
            self.refused(TooMany, met, book, 9, offers[:many], [("aa", [999], NOUGHT)], most=60)
            self.refused(TooMany, near_with, book, 9, offers[:many], "aa", [999], most=60)
        bad = [offer(101, "zz", "zz", (0, [0], 0))] * 8
        self.refused(TooMany, met, book, 9, bad[:5], [], most=60)
        self.not_held(book, 9, bad[:1], 0)
        for key in range(2000, 2004):
            book.put(read_paper(f"{key} 900 read st 1"))
        self.held(book, 9, [])
        self.refused(TooMany, met, book, 9, bad[:1], [], most=60)
        self.refused(TooMany, near_with, book, 9, offers[:1], "ru", [0], most=60)


class NearWith(Base):

    def test_without_offers(self):
        book = self.book("1 4 held ga st 90 : 0 1 0 3")
        self.assertEqual(near_with(book, 4, [], "ga", [0]), ((7, 1), [(1, "ga", 0, 4, ONE), (105, "st", 1, 4, ONE)]))
        self.assertEqual(near_with(book, 6, [], "ga", [0]), ((11, 1), [(1, "ga", 0, 6, ONE), (105, "st", 1, 4, ONE)]))
        for spot, day in (([5], 4), ([0, 5], 4), ([0], 3)):
            self.assertIsNone(near_with(book, day, [], "ga", spot))
        self.assertEqual(near_with(book, 4, [], "ru", [5]), ((3, 2), [(106, "ru", 0, 4, (1, 2)), (106, "ru", 10, 4, (1, 2))]))

    def test_with_offers(self):
        book = self.book("1 4 held ga st 90 : 0 1 0 3")
        good = offer(10, "ga", "ru", (0, [0], 1), (5, [10], 2))
        by_good = [(10, "ga", 0, 6, ONE), (106, "ru", 0, 6, ONE)]
        self.assertEqual(near_with(book, 6, [good], "ga", [0]), ((3, 1), by_good))
        self.assertEqual(near_with(book, 6, [good], "ga", [5]), ((6, 1), [(10, "ga", 5, 6, ONE), (106, "ru", 10, 6, ONE)]))
        # No wider than what was held that day: the lesser key.
        good = offer(10, "ga", "st", (0, [1], 3))
        self.assertEqual(near_with(book, 4, [good], "ga", [0]), ((7, 1), [(1, "ga", 0, 4, ONE), (105, "st", 1, 4, ONE)]))
        book = self.book("20 4 held ga st 90 : 0 1 0 3")
        self.assertEqual(near_with(book, 4, [good], "ga", [0]), ((7, 1), [(10, "ga", 0, 4, ONE), (105, "st", 1, 4, ONE)]))

    def test_an_offer_that_is_no_use(self):
        book = self.book("1 4 held ga st 90 : 0 1 0 3")
        self.assertEqual(near_with(book, 5, [offer(10, "ga", "st", (0, [1], 9), (10, [5], 0))], "ga", [0]),
                         ((9, 1), [(1, "ga", 0, 5, ONE), (105, "st", 1, 4, ONE)]))
        # Without a chain of the finer thing that day.
        self.assertIsNone(near_with(book, 5, [offer(10, "ga", "bl", (5, [1], 0))], "ga", [5]))
        self.assertIsNone(near_with(book, 1001, [offer(10, "ga", "ru", (5, [1], 0))], "ga", [5]))

    def test_an_offer_by_another_offer(self):
        book = self.book()
        offers = [offer(11, "ga", "bl", (0, [1, 2], 1)), offer(10, "bl", "st", (1, [1], 2), (2, [1, 5], 0))]
        self.assertEqual(near_with(book, 7, offers, "ga", [0, 0]), ((26, 1), [
            (11, "ga", 0, 7, (2, 1)), (10, "bl", 1, 7, (2, 1)), (10, "bl", 2, 7, (2, 1)),
            (105, "st", 1, 7, (4, 1)), (105, "st", 5, 7, (2, 1))]))
        self.assertIsNone(near_with(book, 7, offers[:1], "ga", [0]))
        self.assertIsNone(near_with(book, 7, offers[1:], "ga", [0]))
        self.assertEqual(near_with(book, 7, offers, "bl", [1])[0], (5, 1))

    def test_on_its_day_alone(self):
        # What was held on earlier days gains nothing by an offer.
        book = self.book("1 4 held ga bl 90 : 0 1 0 0")
        good = offer(10, "bl", "st", (1, [1], 0))
        self.assertEqual(near_with(book, 4, [good], "ga", [0]),
                         (ONE, [(1, "ga", 0, 4, ONE), (10, "bl", 1, 4, ONE), (105, "st", 1, 4, ONE)]))
        self.assertIsNone(near_with(book, 5, [good], "ga", [0]))
        self.assertIsNone(near_with(book, 3, [good], "ga", [0]))

    def test_the_least_width_is_not_by_the_ends(self):
        book = self.book("1 4 told st 90 : 1 5 9", "2 4 held ga st 0 : 0 1 0 0")
        # Far apart from one another, and yet each of them is narrow.
        found = near_with(book, 4, [offer(10, "ga", "ru", (0, [0], 1))], "ga", [0])
        self.assertEqual(found, (ONE, [(2, "ga", 0, 4, ONE), (105, "st", 1, 4, ONE)]))

    def test_windows_are_shut_to_offers_too(self):
        good = [offer(10, "ga", "ru", (0, [0], 0)), offer(11, "ga", "st", (0, [1], 5))]
        by_ru, by_st = (ONE, [(10, "ga", 0, 7, ONE), (106, "ru", 0, 7, ONE)]), ((11, 1), [(11, "ga", 0, 7, ONE), (105, "st", 1, 7, ONE)])
        for texts, found in (((), by_ru), (("1 7 off ru", "2 7 told ru 0 : 0 0 1"), (ONE, [(10, "ga", 0, 7, ONE), (2, "ru", 0, 7, ONE)])),
                             (("1 7 off ru",), by_st), (("1 8 off ru",), by_st), (("1 900 off ru",), by_st),
                             (("1 8 off ru", "2 8 off st"), None), (("1 8 off ga",), None), (("1 7 off ga",), by_ru),
                             (("1 8 off bl",), by_ru), (("1 9 off ru", "2 7 told ru 0 : 10 0 1"), by_st)):
            self.assertEqual(near_with(self.book(*texts), 7, good, "ga", [0]), found, texts)
        # Held on the very day, the mark is in doubt from the next one on.
        book = self.book("1 9 off ga", "2 7 held ga ru 0 : 0 10 0 9")
        self.assertEqual(near_with(book, 7, good, "ga", [0]), by_ru)
        self.assertIsNone(near_with(book, 8, good, "ga", [0]))


class Met(Base):

    def test_just_at_its_width_and_just_not(self):
        book = self.book()
        offers = [offer(10, "ga", "ru", (0, [0], 3))]
        for width, is_met in (((7, 1), True), ((6999, 1000), False), ((7001, 1000), True), ((8, 1), True), (NOUGHT, False),
                              ((10 ** 12, 1), True), ((13, 2), False), ((15, 2), True)):
            self.assertEqual(met(book, 7, offers, [("ga", [0], width)]), [is_met], width)
            self.assertEqual(met(book, 7, [], [("ga", [0], width)]), [False])
        self.assertEqual(met(book, 7, [], [("ru", [0], ONE), ("ru", [0], (999, 1000)), ("ru", [0, 0], (2, 1))]), [True, False, True])

    def test_a_width_of_nought(self):
        book = self.book("1 7 told ru 0 : 0 4 4")
        for slack, is_met in ((0, True), (1, False)):
            self.assertEqual(met(book, 7, [offer(10, "ga", "ru", (0, [0], slack))], [("ga", [0], NOUGHT)]), [is_met])

    def test_one_for_each_wish_in_their_order(self):
        book = self.book()
        offers = [offer(10, "ga", "ru", (0, [0], 3)), offer(11, "ga", "ru", (5, [0], 0))]
        wishes = [("ga", [5], ONE), ("ga", [0], ONE), ("ga", [0], (7, 1)), ("ga", [10], (10 ** 9, 1)), ("ga", [0, 5], (8, 1)),
                  ("ru", [0], ONE)]
        found = met(book, 7, offers, wishes)
        self.assertEqual(found, [True, False, True, False, True, True])
        self.assertEqual({type(one) for one in found}, {bool})
        self.assertEqual(met(book, 7, offers, wishes[::-1]), found[::-1])
        self.assertEqual(met(book, 7, offers[::-1], wishes), found)
        self.assertEqual(met(book, 7, offers, [wishes[0]] * 6), [True] * 6)
        self.assertEqual(met(book, 7, [], []), [])


class Refusals(Base):

    def test_wishes_one_by_one(self):
        book = self.book("1 8 thing la box 3 0 1", "2 6 made ca 0 : 1 bl 1")
        good, no_thing, no_spot = ("ru", [0], ONE), ("aa", [999], ONE), ("ru", [11], ONE)
        self.refused(NoThing, met, book, 7, [], [good, no_thing, no_spot], name="aa")
        self.refused(NoSpot, met, book, 7, [], [good, no_spot, no_thing])
        self.refused(NoThing, met, book, 7, [], [good] * 5 + [no_thing], name="aa")
        for name, day in (("la", 7), ("bl", 6), ("ca", 5)):
            self.refused(NoThing, met, book, day, [], [(name, [999], ONE)], name=name)
            self.refused(NoThing, near_with, book, day, [], name, [999], name=name)
            self.assertEqual(met(book, 8 if name == "la" else 5 if name == "bl" else 6, [], [(name, [1], ONE)]), [False])
        for name, spot in (("ru", [11]), ("st", [3]), ("ca", [2]), ("ca", [1, 1])):
            self.refused(NoSpot, met, book, 7, [], [(name, spot, ONE)])
            self.refused(NoSpot, near_with, book, 7, [], name, spot)

    def test_wrong(self):
        book = self.book()
        offers, wishes = [offer(10, "ga", "ru", (0, [0], 3))], [("ga", [0], ONE)]
        bad = [thing for thing in junk() if thing.__class__ is not list]
        places_refused(self, met, [book, 7, offers, wishes], bad, Wrong)
        places_refused(self, near_with, [book, 7, offers, "ga", [0]], bad, Wrong)
        for spot in ([2, 1], [], [1] * 7, [True], [1001], (1,), 1):
            self.refused(Wrong, near_with, book, 7, offers, "ga", spot, at=4)
            self.refused(Wrong, near_with, book, 7, offers, "GA", spot, at=3)
        for day in (-1, 10 ** 6 + 1, True, None):
            self.refused(Wrong, met, book, day, None, None, at=1)

    def test_what_is_no_offer_and_no_wish(self):
        book = self.book()
        good, wish = offer(10, "ga", "ru", (0, [0], 3)), ("ga", [0], ONE)
        for thing in NO_OFFERS:
            for offers in ([thing], [good, thing], [offer(101, "aa", "aa", (0, [0], 0)), thing]):
                self.refused(Wrong, met, book, 7, offers, None, at=2)
                self.refused(Wrong, near_with, book, 7, offers, "AA", None, at=2)
        for thing in NO_WISHES:
            self.refused(Wrong, met, book, 7, [offer(101, "aa", "aa", (0, [0], 0))], [thing], at=3)
            self.refused(Wrong, met, book, 7, [], [("aa", [0], ONE), thing, wish], at=3)
        self.refused(Wrong, met, book, 7, [good] * 9, [], at=2)
        self.refused(NoOffer, met, book, 7, [good] * 8, [], at=1)
        self.refused(Wrong, met, book, 7, [], [wish] * 7, at=3)
        self.assertEqual(met(book, 7, [], [wish] * 6), [False] * 6)
        self.refused(Wrong, met, book, 7, (), [], at=2)
        self.refused(Wrong, met, book, 7, [], (), at=3)

    def test_nothing_is_changed(self):
        book = self.book("1 4 held ga st 90 : 0 1 0 3")
        offers = [offer(10, "ga", "ru", (0, [0], 3)), offer(11, "bl", "st", (1, [1, 5], 0))]
        wishes, spot = [("ga", [0, 0], ONE), ("bl", [1], ONE)], [0]
        ahead = copy.deepcopy((offers, wishes, spot, words_of(book), [book.paper(key) for key in book.kept()]))
        own_each_time(self, lambda: met(book, 7, offers, wishes))
        own_each_time(self, lambda: near_with(book, 7, offers, "ga", spot))
        self.refused(NoOffer, met, book, 7, offers * 2, wishes, at=2)
        self.assertEqual((offers, wishes, spot, words_of(book), [book.paper(key) for key in book.kept()]), ahead)


class AsTheTellerTells(Base):

    def test_near_with_and_met(self):
        seen = {}
        for seed in range(250):
            chance = Random(seed)
            model, day, offers, wishes = some_trial(chance, Teller)
            book = Book()
            for one in model.papers:
                book.put(one)
            for name, spot, _ in wishes:
                found = near_with(book, day, offers, name, spot)
                self.assertEqual(found, model.near_with(day, offers, name, spot))
                alone = near_with(book, day, [], name, spot)
                self.assertEqual(alone and alone[0], nearest(book, name, spot, day, all_windows(book)))
                self.assertEqual(alone and alone[1], chain(book, name, spot, day, all_windows(book), "near"))
                what = "none" if found is None else "nearer" if found != alone else "as near"
                seen[what] = seen.get(what, 0) + 1
            found = met(book, day, offers, wishes)
            self.assertEqual(found, model.met(day, offers, wishes))
            for one in found:
                seen[one] = seen.get(one, 0) + 1
        self.assertGreater(min(seen.get(what, 0) for what in ("none", "nearer", "as near", True, False)), 12, seen)
