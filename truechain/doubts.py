"""Doubts: since things were found off, marks are in doubt on the days ahead, and readings by them."""

from truechain.book import Book
from truechain.chains import rows_by
from truechain.errors import NoOff, require
from truechain.kinds import is_key
from truechain.links import wanted
from truechain.papers import DAY_AT, FIRST_AT
from truechain.routes import Routes, Web
from truechain.things import line_of


def windows(book, key):
    """Tell the windows through which the off paper of a key throws doubt, sorted."""
    require(isinstance(book, Book), is_key(key))
    return windows_thrown(book, key)


def all_windows(book):
    """Tell the windows of all off papers that stand, sorted, each once."""
    require(isinstance(book, Book))
    return windows_of_all(book)


def doubted(book, key):
    """Tell of each reading whether the off paper of a key, or all of them for None, made it doubtful.

    Told are tuples (key, "bare", None), (key, "doubtful", rows) and (key, "sure", rows) by rising keys.
    """
    require(isinstance(book, Book), key is None or is_key(key))
    shut = windows_of_all(book) if key is None else windows_thrown(book, key)
    things = book.course().things
    open_routes = Routes(Web(things, [], {}), "low")
    sure_routes = Routes(Web(things, shut, {}), "low")
    return [doubt_of(book, reading, open_routes, sure_routes) for reading in book.readings()]


def doubt_of(book, key, open_routes, sure_routes):
    """Tell of a reading whether it has chains by routes through all windows and by those through none that is shut."""
    parts = wanted_by(book, key)
    rows = rows_by(sure_routes, parts)
    if rows is not None:
        return (key, "sure", rows)
    rows = rows_by(open_routes, parts)
    if rows is not None:
        return (key, "doubtful", rows)
    return (key, "bare", None)


def wanted_by(book, key):
    """Tell what is wanted of a reading that stands, as tuples (weight, name, mark, day)."""
    _, day, _, name, spot = book.paper(key)
    return wanted(book.course().things, name, spot, day)


def windows_thrown(book, key):
    """Tell the windows of the off paper of a key, sorted, or refuse the key."""
    if key not in book.offs():
        raise NoOff(key)
    paper = book.paper(key)
    things = book.course().things
    name = paper[FIRST_AT]
    found = []
    for mark in things[name].shape.marks():
        found.extend(windows_down(things, name, mark, paper[DAY_AT]))
    return sorted(found)


def windows_of_all(book):
    """Tell the windows of all off papers that stand, sorted, each once."""
    found = []
    for key in book.offs():
        found.extend(windows_thrown(book, key))
    return sorted(set(found))


def windows_down(things, name, mark, behind):
    """Tell the windows of a mark that was found off, up to a day, and of the pieces that it came from."""
    found = []
    for elder, piece in line_of(things, name, mark):
        thing = things[elder]
        held = [holding.day for holding in thing.holdings if piece in holding.rows and holding.day < behind]
        first = max(held) + 1 if held else thing.begin
        if first < behind:
            found.append((elder, piece, first, behind))
        if held:
            break
        # The piece was as far off as the mark on the day on which the box was made, that one counted.
        behind = thing.begin + 1
    return found
