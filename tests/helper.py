"""What several test files need."""

import unittest

from truechain.book import Book
from truechain.errors import NoSpot, NoThing, Wrong
from truechain.texts import read_paper


class Stubborn:
    """A thing that can be neither shown, nor compared, nor measured, nor tested."""

    def _refuse(self, *_):
        raise RuntimeError("this must not be asked")

    __repr__ = __str__ = __eq__ = __ne__ = __lt__ = __le__ = __gt__ = __ge__ = _refuse
    __len__ = __bool__ = __iter__ = __getitem__ = __contains__ = __hash__ = __index__ = __int__ = _refuse


NO_WINDOWS = [
    ("st", 1, 0), ("st", 1, 0, 1, 2), ["st", 1, 0, 1], "st", None, (), ("ST", 1, 0, 1), ("", 1, 0, 1), (1, "st", 0, 1),
    ("st", -1, 0, 1), ("st", 1001, 0, 1), ("st", True, 0, 1), ("st", [1], 0, 1), ("st", 1, -1, 1), ("st", 1, 0, -1),
    ("st", 1, 10 ** 6 + 2, 1), ("st", 1, 0, 10 ** 6 + 2), ("st", 1, True, 1), ("st", 1, 0, True), ("st", 1, None, 1),
    ("st", 1, 0, None), ("st", 1, "0", 1), (Stubborn(), 1, 0, 1), ("st", 1, 0, Stubborn()), Stubborn(), [("st", 1, 0, 1)],
]

GOOD_ROW = (0, [0], (1, 1))
NO_OFFERS = [
    (10, "ga", "ru"), (10, "ga", "ru", [GOOD_ROW], 0), [10, "ga", "ru", [GOOD_ROW]], (), None, "offer", 7, Stubborn(),
    (0, "ga", "ru", [GOOD_ROW]), (10 ** 9 + 1, "ga", "ru", [GOOD_ROW]), (True, "ga", "ru", [GOOD_ROW]),
    ("10", "ga", "ru", [GOOD_ROW]), (10, "GA", "ru", [GOOD_ROW]), (10, "", "ru", [GOOD_ROW]), (10, None, "ru", [GOOD_ROW]),
    (10, "ga", "RU", [GOOD_ROW]), (10, "ga", 7, [GOOD_ROW]), (10, "ga", Stubborn(), [GOOD_ROW]), (10, "ga", "ru", []),
    (10, "ga", "ru", (GOOD_ROW,)), (10, "ga", "ru", GOOD_ROW), (10, "ga", "ru", None), (10, "ga", "ru", [None]),
    (10, "ga", "ru", [list(GOOD_ROW)]), (10, "ga", "ru", [GOOD_ROW, GOOD_ROW]), (10, "ga", "ru", [(5, *GOOD_ROW[1:]), GOOD_ROW]),
    (10, "ga", "ru", [(mark, *GOOD_ROW[1:]) for mark in range(9)]), (10, "ga", "ru", [GOOD_ROW[:2]]),
    (10, "ga", "ru", [(0, [0], (0, 1), (1, 1))]), (10, "ga", "ru", [(-1, *GOOD_ROW[1:])]),
    (10, "ga", "ru", [(1001, *GOOD_ROW[1:])]), (10, "ga", "ru", [(False, *GOOD_ROW[1:])]),
    (10, "ga", "ru", [(0, [], (1, 1))]), (10, "ga", "ru", [(0, [2, 1], (1, 1))]), (10, "ga", "ru", [(0, (0,), (1, 1))]),
    (10, "ga", "ru", [(0, 0, (1, 1))]), (10, "ga", "ru", [(0, [0] * 7, (1, 1))]), (10, "ga", "ru", [(0, [0], (-1, 1))]),
    (10, "ga", "ru", [(0, [0], (2, 2))]), (10, "ga", "ru", [(0, [0], (1, 1001))]), (10, "ga", "ru", [(0, [0], 1)]),
    (10, "ga", "ru", [(0, [0], (10 ** 12 + 1, 1))]), (10, "ga", "ru", [(0, [0], [1, 1])]), (10, "ga", "ru", [Stubborn()]),
]
NO_WISHES = [
    ("ga", [0]), ("ga", [0], (1, 1), 0), ["ga", [0], (1, 1)], (), None, "wish", 7, Stubborn(), ("GA", [0], (1, 1)),
    (7, [0], (1, 1)), (Stubborn(), [0], (1, 1)), ("ga", [], (1, 1)), ("ga", [1, 0], (1, 1)), ("ga", (0,), (1, 1)),
    ("ga", 0, (1, 1)), ("ga", [True], (1, 1)), ("ga", [0] * 7, (1, 1)), ("ga", [0], 1), ("ga", [0], None),
    ("ga", [0], (-1, 1)), ("ga", [0], (2, 2)), ("ga", [0], (1, 1001)), ("ga", [0], (10 ** 12 + 1, 1)), ("ga", [0], [1, 1]),
    ("ga", [0], (1, True)), ("ga", [0], Stubborn()),
]


def ring():
    """A list that holds itself."""
    made = [1]
    made.append(made)
    return made


def junk():
    """Things that are of none of the document's kinds."""
    return [
        True, False, None, -1, -(10 ** 60), 10 ** 60, "", " ", "1", "1/2", "A", "a b", "abc\n", "a1", "ninesigns",
        b"", b"abc", [], [None], [[]], [True], ["a"], [-1], [1001], [2, 1], ["1", "2"], [(2, 4)], ring(),
        (), (1,), (1, 2, 3), (2, 4), (0, 2), (1, 0), (1, -2), (True, 2), (1, True), ("1", 2), (1, "2"), (None, None),
        (1, [2]), ((1, 2), 3), {}, {1: 2}, {0: 1, 1: 2}, set(), {1, 2}, frozenset([1]), range(3), object(), Stubborn(),
        [Stubborn()], (Stubborn(), 2), (1, Stubborn()), len, int, Stubborn, NotImplemented, ..., iter([1]), 10 ** 700,
    ]


def places_refused(case, call, arguments, bad, refusal):
    """Check that each bad thing is refused at each place of the arguments, and the first of several."""
    for at in range(len(arguments)):
        for thing in bad:
            spoilt = list(arguments)
            # All behind it are spoilt as well: the first place is what counts.
            spoilt[at:] = [thing] * (len(arguments) - at)
            with case.assertRaises(refusal) as caught:
                call(*spoilt)
            case.assertEqual(caught.exception.at, at)
            spoilt[at + 1:] = arguments[at + 1:]
            with case.assertRaises(refusal) as caught:
                call(*spoilt)
            case.assertEqual(caught.exception.at, at)


def book_of(*texts):
    """A book of the papers that have these texts, put in this order."""
    book = Book()
    for text in texts:
        book.put(read_paper(text))
    return book


def words_of(book):
    """The words of all papers of a book, by their keys."""
    return {key: book.word(key) for key in book.kept()}


def lists_in(thing):
    """All lists in what was told, each as often as it stands there."""
    found = [thing] if isinstance(thing, list) else []
    if isinstance(thing, (list, tuple)):
        for inner in thing:
            found.extend(lists_in(inner))
    return found


def own_each_time(case, ask):
    """Check that what is told shares no list with what is told again, nor holds one twice, and stays the same."""
    first, second = ask(), ask()
    case.assertEqual(first, second)
    lists = lists_in(first) + lists_in(second)
    case.assertEqual(len({id(one) for one in lists}), len(lists))
    for one in lists_in(first):
        one.clear()
        one.append("spoilt")
    case.assertEqual(ask(), second)


class Case(unittest.TestCase):
    """What the test cases of books, links and ends share."""

    def refused(self, refusal, call, *arguments, **fields):
        """Check that a call is refused with just this refusal, which keeps these fields."""
        with self.assertRaises(refusal) as caught:
            call(*arguments)
        self.assertIs(type(caught.exception), refusal)
        self.assertEqual(vars(caught.exception), fields)

    def standing(self, *texts):
        """A book of the papers that have these texts, all of which stand."""
        book = book_of(*texts)
        self.assertEqual(set(words_of(book).values()), {"stands"})
        return book

    def spot_refused(self, call, *more):
        """Check what is refused where (book, name, spot, day) and more are asked, and in which order."""
        book = book_of("101 0 thing st box 0 0 1,2,5", "103 0 thing ga scale 2 0 0,5,10", "104 0 thing bl box 1 0 1,2,3",
                       "105 7 thing zz box 0 0 1", "106 5 made ca 0 : 1 bl 1")
        bad = [thing for thing in junk() if thing.__class__ is not list]
        places_refused(self, call, [book, "st", [1], 1, *more], bad, Wrong)
        for spot in ([2, 1], [], [1] * 7, [True], [1001], [Stubborn()], (1,), 1):
            self.refused(Wrong, call, book, "aa", spot, -1, *more, at=2)
        for day in (-1, 10 ** 6 + 1, True, "1", [1]):
            self.refused(Wrong, call, book, "aa", [9], day, *more, at=3)
        self.refused(Wrong, call, Book, "AA", [2, 1], -1, *more, at=0)
        self.refused(Wrong, call, book, "AA", [2, 1], -1, *more, at=1)
        for name, spot, day in (("aa", [1], 5), ("zz", [1], 6), ("zz", [999], 6), ("ca", [1], 4), ("ca", [7], 4),
                                ("bl", [1], 5), ("bl", [9], 6)):
            self.refused(NoThing, call, book, name, spot, day, *more, name=name)
        for name, spot, day in (("zz", [2], 7), ("ca", [2], 5), ("bl", [4], 4), ("bl", [1, 1], 4), ("st", [3], 0),
                                ("ga", [11], 0), ("ga", [0, 1000], 0)):
            self.refused(NoSpot, call, book, name, spot, day, *more)

    def windows_refused(self, call, *more):
        """Check which windows are refused where (book, name, spot, day, shut) and more are asked."""
        book = book_of("101 0 thing st box 0 0 1,2,5")
        good = ("st", 1, 0, 1)
        for thing in NO_WINDOWS:
            self.refused(Wrong, call, book, "aa", [9], 1, [thing], *more, at=4)
            for at in range(3):
                shut = [good] * 3
                shut[at] = thing
                self.refused(Wrong, call, book, "st", [1], 1, shut, *more, at=4)
        for shut in ((good,), good, {good: 1}, None, "st", [good] * 1001, True):
            self.refused(Wrong, call, book, "aa", [9], 1, shut, *more, at=4)
        for shut in ([good] * 1000, [], [("aa", 0, 10 ** 6 + 1, 10 ** 6 + 1)], [("zz", 1000, 0, 10 ** 6 + 1)]):
            self.refused(NoThing, call, book, "aa", [9], 1, shut, *more, name="aa")
            self.assertIn(call(book, "st", [1], 1, shut, *more), (None, []))
