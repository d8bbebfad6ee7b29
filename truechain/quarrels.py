"""Quarrels: chains of one spot that don't meet, and the marks on days at which chains don't."""

from truechain.book import Book
from truechain.chains import rows_by
from truechain.ends import Reach
from truechain.errors import require
from truechain.fractions import compared
from truechain.kinds import is_day, is_name, is_spot
from truechain.links import wanted
from truechain.routes import Web, places_from
from truechain.shutters import are_windows


def quarrel(book, name, spot, day, shut):
    """Tell the two chains of a spot that quarrel, the one by "low" and the one by "high", or None."""
    require(isinstance(book, Book), is_name(name), is_spot(spot), is_day(day), are_windows(shut))
    things = book.course().things
    parts = wanted(things, name, spot, day)
    reach = Reach(Web(things, shut, {}))
    if not is_crossed(reach.ends_of(parts)):
        return None
    return (rows_by(reach.lows, parts), rows_by(reach.highs, parts))


def quarrels(book, name, spot, day, shut):
    """Tell the marks on days (name, mark, day) that a spot's chains have links of and whose own ends are crossed."""
    require(isinstance(book, Book), is_name(name), is_spot(spot), is_day(day), are_windows(shut))
    things = book.course().things
    parts = wanted(things, name, spot, day)
    reach = Reach(Web(things, shut, {}))
    if reach.ends_of(parts) is None:
        return []
    places = places_from(things, parts, reach.lows.below_all)
    return [place for place in places if is_crossed(reach.ends_at(place))]


def is_crossed(ends):
    """Tell whether ends, None where there are none, are a low end above the high end."""
    return ends is not None and compared(ends[0], ends[1]) == 1
