"""The desk: it keeps a house, is told rows of words, and answers each with a text."""

from truechain.answers import lasts
from truechain.chains import chain, is_by
from truechain.doubts import all_windows, doubted
from truechain.errors import NoReading, NoRow
from truechain.house import House
from truechain.papers import is_worth_of
from truechain.texts import read_paper, show_fraction, word_of, worth_of

PUT = "put "
# The words behind the first one of each row but the one that puts.
PARTS_OF_ROWS = {
    "strike": ("key",),
    "back": (),
    "keys": (),
    "word": ("key",),
    "answer": ("key",),
    "chain": ("key", "by"),
    "doubt": ("off",),
    "lasts": ("name", "spot", "day"),
}
NOTHING = "none"
NONE_HERE = "-"


class Desk:
    """A house that is told rows."""

    def __init__(self):
        self._house = House()

    def say(self, text):
        """Tell the answer to a row."""
        if not isinstance(text, str):
            raise NoRow()
        if text.startswith(PUT):
            return changes_text(self._house.put(read_paper(text[len(PUT):])))
        first, *words = text.split(" ")
        if first not in PARTS_OF_ROWS or len(words) != len(PARTS_OF_ROWS[first]):
            raise NoRow()
        worths = [worth_in(part, word) for part, word in zip(PARTS_OF_ROWS[first], words)]
        said_by = ANSWERS[first]
        return said_by(self._house, *worths)


def worth_in(part, word):
    """Tell what a word of a row stands for, or refuse the row where it stands for nothing of this kind."""
    if part == "by":
        if not is_by(word):
            raise NoRow()
        return word
    if part == "off":
        return None if word == NONE_HERE else worth_in("key", word)
    worth = worth_of(part, word)
    # What reads the word is lenient: only the worth's own word is its word.
    if not is_worth_of(part, worth) or word_of(part, worth) != word:
        raise NoRow()
    return worth


def say_strike(house, key):
    """Answer the row that strikes a key."""
    return changes_text(house.strike(key))


def say_back(house):
    """Answer the row that takes the last deed back."""
    return changes_text(house.back())


def say_keys(house):
    """Answer the row that asks for the kept keys."""
    return listed([str(key) for key in house.kept()])


def say_word(house, key):
    """Answer the row that asks for a paper's word."""
    return house.word(key)


def say_answer(house, key):
    """Answer the row that asks for a reading's answer."""
    return answer_text(house.answer(key))


def say_chain(house, key, by):
    """Answer the row that asks for a chain of a reading."""
    book = house.book()
    if key not in book.readings():
        raise NoReading(key)
    _, day, _, name, spot = book.paper(key)
    rows = chain(book, name, spot, day, all_windows(book), by)
    return NOTHING if rows is None else listed([row_text(row) for row in rows])


def say_doubt(house, key):
    """Answer the row that asks which readings an off paper made doubtful, or all of them."""
    return listed([f"{reading} {word}" for reading, word, _ in doubted(house.book(), key)])


def say_lasts(house, name, spot, day):
    """Answer the row that asks how long a spot lasts."""
    last = lasts(house.book(), name, spot, day)
    return NOTHING if last is None else str(last)


def listed(texts):
    """Tell things of one sort, or that there are none."""
    return ", ".join(texts) if texts else NOTHING


def changes_text(changes):
    """Tell what changed: the words of papers, then the answers of readings."""
    words, answers = changes
    papers = [f"{key} {word_text(before)} {word_text(after)}" for key, before, after in words]
    readings = [f"{key} {answer_text(before)} > {answer_text(after)}" for key, before, after in answers]
    return listed(papers) + " ; " + listed(readings)


def word_text(word):
    """Tell the word of a paper, or that there is none."""
    return NONE_HERE if word is None else word


def answer_text(answer):
    """Tell the answer of a reading, or that there is none."""
    if answer is None:
        return NONE_HERE
    word, *ends = answer
    return " ".join([word] + [show_fraction(end) for end in ends])


def row_text(row):
    """Tell a row of a chain."""
    key, name, mark, day, weight = row
    return f"{key} {name} {mark} {day} {show_fraction(weight)}"


# What answers each row but the one that puts.
ANSWERS = {
    "strike": say_strike,
    "back": say_back,
    "keys": say_keys,
    "word": say_word,
    "answer": say_answer,
    "chain": say_chain,
    "doubt": say_doubt,
    "lasts": say_lasts,
}
