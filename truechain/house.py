"""The house: it keeps a book, tells of each deed what changed by it, and takes deeds back."""

from truechain.answers import answer, answers_of
from truechain.book import Book
from truechain.errors import NoDeed, require
from truechain.kinds import is_key
from truechain.papers import KEY_AT


class House:
    """A book, empty at first, and the deeds that made it what it is."""

    def __init__(self):
        self._book = Book()
        # Of each deed the key that it put, or the paper that it struck.
        self._deeds = []
        self._words = {}
        self._answers = {}

    def put(self, paper):
        """Keep a paper, and tell what changed: a list for the words of papers, and one for the answers of readings."""
        self._book.put(paper)
        self._deeds.append((paper[KEY_AT], None))
        return self._changed()

    def strike(self, key):
        """Let the paper of a key go, and tell what changed."""
        paper = self._book.paper(key)
        self._book.strike(key)
        self._deeds.append((key, paper))
        return self._changed()

    def back(self):
        """Undo the last deed that was not taken back yet, and tell what changed."""
        if not self._deeds:
            raise NoDeed()
        key, paper = self._deeds.pop()
        if paper is None:
            self._book.strike(key)
        else:
            self._book.put(paper)
        return self._changed()

    def kept(self):
        """Tell the kept keys, rising."""
        return self._book.kept()

    def word(self, key):
        """Tell the word of the paper of a key."""
        return self._book.word(key)

    def answer(self, key):
        """Tell the answer of a reading."""
        # The key stands at another place here than it does where the answer is asked of a book.
        require(is_key(key))
        return answer(self._book, key)

    def answers(self):
        """Tell the answers of all readings that stand, as tuples (key, answer) by rising keys."""
        return [(key, self._answers[key]) for key in sorted(self._answers)]

    def book(self):
        """Tell a book with the same papers that goes on by itself."""
        return self._book.copied()

    def _changed(self):
        """Tell which words and answers are not the same as ahead of the deed, and keep what they are now."""
        words = {key: self._book.word(key) for key in self._book.kept()}
        answers = answers_of(self._book, self._book.readings())
        changed = (changes(self._words, words), changes(self._answers, answers))
        self._words = words
        self._answers = answers
        return changed


def changes(ahead, behind):
    """Tell the keys, rising, of which two dicts don't tell the same, as tuples (key, before, after)."""
    keys = sorted(set(list(ahead) + list(behind)))
    rows = [(key, ahead.get(key), behind.get(key)) for key in keys]
    return [row for row in rows if row[1] != row[2]]
