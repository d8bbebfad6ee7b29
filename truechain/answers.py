"""The answers of readings, and how long a spot lasts."""

from truechain.book import Book
from truechain.doubts import wanted_by, windows_of_all
from truechain.ends import Reach
from truechain.errors import NoReading, require
from truechain.fractions import compared
from truechain.kinds import LAST_DAY, is_day, is_key, is_name, is_spot
from truechain.links import wanted
from truechain.routes import Routes, Web
from truechain.things import line_of


def answer(book, key):
    """Tell the answer of a reading: ("bare",), ("doubtful",), ("within", low, high) or ("apart", low, high)."""
    require(isinstance(book, Book), is_key(key))
    if key not in book.readings():
        raise NoReading(key)
    return answers_of(book, [key])[key]


def lasts(book, name, spot, day):
    """Tell the last day up to which a spot has a sure chain on each day from this one on, or None."""
    require(isinstance(book, Book), is_name(name), is_spot(spot), is_day(day))
    things = book.course().things
    marks = [part[2] for part in wanted(things, name, spot, day)]
    shut = windows_of_all(book)
    routes = Routes(Web(things, shut, {}), "low")
    # Between these days nothing is lost, so that to look at the first day and at them is to look at all.
    for turn in [day] + losses(things, name, marks, shut, day):
        if not things[name].is_there(turn) or routes.cost_of(wanted(things, name, spot, turn)) is None:
            return turn - 1 if turn > day else None
    return LAST_DAY


def answers_of(book, keys):
    """Tell the answers of readings that stand, by their keys."""
    things = book.course().things
    open_routes = Routes(Web(things, [], {}), "low")
    reach = Reach(Web(things, windows_of_all(book), {}))
    return {key: answer_by(wanted_by(book, key), open_routes, reach) for key in keys}


def answer_by(parts, open_routes, reach):
    """Tell the answer of a reading by routes through all windows and by what is reached through none."""
    found = reach.ends_of(parts)
    if found is None:
        return ("bare",) if open_routes.cost_of(parts) is None else ("doubtful",)
    low, high = found
    return ("apart" if compared(low, high) == 1 else "within", low, high)


def losses(things, name, marks, shut, day):
    """Tell the days behind a day on which marks of a thing may lose chains, or the thing may end, rising."""
    turns = [things[name].end] if things[name].end is not None else []
    for mark in marks:
        turns.extend([window[2] for window in shut if window[:2] == (name, mark)])
        for elder, piece in line_of(things, name, mark):
            turns.extend(things[elder].broken)
            for holding in things[elder].holdings:
                if piece in holding.rows:
                    turns.append(holding.day + holding.term + 1)
    return sorted({turn for turn in turns if day < turn <= LAST_DAY})
