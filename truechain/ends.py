"""The ends between which a spot of a thing lies on a day, by all chains that go through no shut window."""

from truechain.book import Book
from truechain.errors import require
from truechain.fractions import negative
from truechain.kinds import is_day, is_name, is_spot
from truechain.links import wanted
from truechain.marks import WHOLE
from truechain.routes import Routes, Web
from truechain.shutters import are_windows


class Reach:
    """How far the chains of a web reach up and down."""

    def __init__(self, web):
        self.lows = Routes(web, "low")
        self.highs = Routes(web, "high")

    def ends_of(self, parts):
        """Tell the greatest low end and the least high end of the chains of parts, or None where there is none."""
        low = self.lows.cost_of(parts)
        if low is None:
            return None
        return (negative(low), self.highs.cost_of(parts))

    def ends_at(self, place):
        """Tell the ends of a mark on a day (name, mark, day), or None where it has no chain."""
        name, mark, day = place
        return self.ends_of([(WHOLE, name, mark, day)])


def ends(book, name, spot, day, shut):
    """Tell the greatest low end and the least high end of a spot's chains on a day, or None where it has none."""
    require(isinstance(book, Book), is_name(name), is_spot(spot), is_day(day), are_windows(shut))
    things = book.course().things
    parts = wanted(things, name, spot, day)
    return Reach(Web(things, shut, {})).ends_of(parts)
