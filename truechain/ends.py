"""The ends between which a spot of a thing lies on a day, by all chains that go through no shut window."""

from truechain.book import Book
from truechain.errors import require
from truechain.fractions import NOUGHT, added, multiplied, outermost
from truechain.kinds import is_day, is_name, is_spot
from truechain.links import links_of, require_there
from truechain.shutters import Shutters, are_windows


class Reach:
    """The ends of the marks of things on days, each looked at once."""

    def __init__(self, things, shutters):
        self.things = things
        self.shutters = shutters
        self.known = {}

    def of_mark(self, name, mark, day):
        """Tell the greatest low end and the least high end of a mark's chains on a day, or None where it has none."""
        place = (name, mark, day)
        if place not in self.known:
            self.known[place] = self._looked_at(name, mark, day)
        return self.known[place]

    def of_parts(self, parts):
        """Tell the ends of tuples (weight, name, mark, day) together, or None where one of them has no chain."""
        low = high = NOUGHT
        for weight, name, mark, day in parts:
            found = self.of_mark(name, mark, day)
            if found is None:
                return None
            low = added(low, multiplied(weight, found[0]))
            high = added(high, multiplied(weight, found[1]))
        return (low, high)

    def _looked_at(self, name, mark, day):
        """Look for the ends of a mark on a day."""
        if self.shutters.hides(name, mark, day):
            return None
        lows = []
        highs = []
        for _, low, high, parts in links_of(self.things, name, mark, day):
            found = self.of_parts(parts)
            if found is not None:
                lows.append(added(low, found[0]))
                highs.append(added(high, found[1]))
        # Weights are not below nought, so the outermost ends of the parts make those of the whole.
        return (outermost(lows, 1), outermost(highs, -1)) if lows else None


def ends(book, name, spot, day, shut):
    """Tell the greatest low end and the least high end of a spot's chains on a day, or None where it has none."""
    require(isinstance(book, Book), is_name(name), is_spot(spot), is_day(day), are_windows(shut))
    things = book.course().things
    require_there(things, name, day)
    parts = [(weight, name, mark, day) for mark, weight in things[name].shape.mix(spot)]
    return Reach(things, Shutters(shut)).of_parts(parts)
