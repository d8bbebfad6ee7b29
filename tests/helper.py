"""What several test files need."""

import unittest

from truechain.book import Book
from truechain.texts import read_paper


class Stubborn:
    """A thing that can be neither shown, nor compared, nor measured, nor tested."""

    def _refuse(self, *_):
        raise RuntimeError("this must not be asked")

    __repr__ = __str__ = __eq__ = __ne__ = __lt__ = __le__ = __gt__ = __ge__ = _refuse
    __len__ = __bool__ = __iter__ = __getitem__ = __contains__ = __hash__ = __index__ = __int__ = _refuse


def ring():
    """A list that holds itself."""
    made = [1]
    made.append(made)
    return made


def junk():
    """Things that are of none of the document's kinds."""
    return [
        True, False, None, -1, -(10 ** 60), 10 ** 60, "", " ", "1", "1/2", "A", "a b", "abc\n", "a1", "ninesigns",
        b"", b"abc", [], [None], [[]], [True], ["a"], [-1], [1001], [2, 1], ["1", "2"], [(2, 4)], ring(),
        (), (1,), (1, 2, 3), (2, 4), (0, 2), (1, 0), (1, -2), (True, 2), (1, True), ("1", 2), (1, "2"), (None, None),
        (1, [2]), ((1, 2), 3), {}, {1: 2}, {0: 1, 1: 2}, set(), {1, 2}, frozenset([1]), range(3), object(), Stubborn(),
        [Stubborn()], (Stubborn(), 2), (1, Stubborn()), len, int, Stubborn, NotImplemented, ..., iter([1]), 10 ** 700,
    ]


def places_refused(case, call, arguments, bad, refusal):
    """Check that each bad thing is refused at each place of the arguments, and the first of several."""
    for at in range(len(arguments)):
        for thing in bad:
            spoilt = list(arguments)
            # All behind it are spoilt as well: the first place is what counts.
            spoilt[at:] = [thing] * (len(arguments) - at)
            with case.assertRaises(refusal) as caught:
                call(*spoilt)
            case.assertEqual(caught.exception.at, at)
            spoilt[at + 1:] = arguments[at + 1:]
            with case.assertRaises(refusal) as caught:
                call(*spoilt)
            case.assertEqual(caught.exception.at, at)


def book_of(*texts):
    """A book of the papers that have these texts, put in this order."""
    book = Book()
    for text in texts:
        book.put(read_paper(text))
    return book


def words_of(book):
    """The words of all papers of a book, by their keys."""
    return {key: book.word(key) for key in book.kept()}


def lists_in(thing):
    """All lists in what was told, each as often as it stands there."""
    found = [thing] if isinstance(thing, list) else []
    if isinstance(thing, (list, tuple)):
        for inner in thing:
            found.extend(lists_in(inner))
    return found


def own_each_time(case, ask):
    """Check that what is told shares no list with what is told again, nor holds one twice, and stays the same."""
    first, second = ask(), ask()
    case.assertEqual(first, second)
    lists = lists_in(first) + lists_in(second)
    case.assertEqual(len({id(one) for one in lists}), len(lists))
    for one in lists_in(first):
        one.clear()
        one.append("spoilt")
    case.assertEqual(ask(), second)


class Case(unittest.TestCase):
    """What the test cases of books, links and ends share."""

    def refused(self, refusal, call, *arguments, **fields):
        """Check that a call is refused with just this refusal, which keeps these fields."""
        with self.assertRaises(refusal) as caught:
            call(*arguments)
        self.assertIs(type(caught.exception), refusal)
        self.assertEqual(vars(caught.exception), fields)

    def standing(self, *texts):
        """A book of the papers that have these texts, all of which stand."""
        book = book_of(*texts)
        self.assertEqual(set(words_of(book).values()), {"stands"})
        return book
