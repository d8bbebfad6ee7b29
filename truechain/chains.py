"""Chains told row by row, from a spot of a thing down to told ends: the best ones, and walks of whatever rows."""

from truechain.book import Book
from truechain.errors import NoChain, require
from truechain.fractions import added, is_fraction, multiplied, summed
from truechain.kinds import is_day, is_key, is_name, is_point, is_spot
from truechain.links import wanted
from truechain.marks import WHOLE
from truechain.routes import Routes, Web, places_from
from truechain.shutters import Shutters, are_windows

BYS = ("low", "high", "near")
MOST_ROWS_OF_A_CHAIN = 1000


class Debt:
    """What is owed of places, none of which is owed nought."""

    def __init__(self, parts):
        self.owed = {}
        self.owe(parts, WHOLE)

    def owe(self, parts, times):
        """Owe parts on top, so many times."""
        for weight, name, mark, day in parts:
            place = (name, mark, day)
            more = multiplied(weight, times)
            self.owed[place] = added(self.owed[place], more) if place in self.owed else more

    def pay(self, place):
        """Pay all that is owed of a place, and tell how much that was."""
        weight = self.owed[place]
        del self.owed[place]
        return weight


def chain(book, name, spot, day, shut, by):
    """Tell the rows (key, name, mark, day, weight) of a spot's best chain by one of the words, or None."""
    require(isinstance(book, Book), is_name(name), is_spot(spot), is_day(day), are_windows(shut), is_by(by))
    things = book.course().things
    parts = wanted(things, name, spot, day)
    return rows_by(Routes(Web(things, shut, {}), by), parts)


def nearest(book, name, spot, day, shut):
    """Tell the least width of a spot's chains, or None where there is none."""
    require(isinstance(book, Book), is_name(name), is_spot(spot), is_day(day), are_windows(shut))
    things = book.course().things
    parts = wanted(things, name, spot, day)
    return Routes(Web(things, shut, {}), "near").cost_of(parts)


def walk(book, name, spot, day, rows):
    """Tell the ends of the chain that rows are, whoever made them."""
    require(isinstance(book, Book), is_name(name), is_spot(spot), is_day(day), may_be_chain(rows))
    things = book.course().things
    debt = Debt(wanted(things, name, spot, day))
    web = Web(things, [], {})
    lows = []
    highs = []
    for at, row in enumerate(rows):
        link = link_paid(web, debt, row)
        if link is None:
            raise NoChain(at)
        _, place_name, mark, place_day, weight = row
        debt.pay((place_name, mark, place_day))
        _, low, high, parts = link
        lows.append(multiplied(weight, low))
        highs.append(multiplied(weight, high))
        debt.owe(parts, weight)
    if debt.owed:
        raise NoChain(len(rows))
    return (summed(lows), summed(highs))


def through(rows, shut):
    """Tell the places of the rows that go through one of some windows, rising."""
    shutters = Shutters(shut)
    return [at for at, (_, name, mark, day, _) in enumerate(rows) if shutters.hides(name, mark, day)]


def rows_by(routes, parts):
    """Tell the rows of the chain of parts by the best links, or None where there is none."""
    if routes.cost_of(parts) is None:
        return None
    debt = Debt(parts)
    rows = []
    # Whatever a link owes is of things of a lesser level, so that each place is paid once, behind all that owe it.
    for place in places_from(routes.web.things, parts, routes.below_best):
        name, mark, day = place
        _, link = routes.best_at(place)
        key, _, _, below = link
        weight = debt.pay(place)
        rows.append((key, name, mark, day, weight))
        debt.owe(below, weight)
    return rows


def link_paid(web, debt, row):
    """Tell the link by which a row pays all that is owed at its place, or None where it does no such thing."""
    if not is_row_of_a_chain(row):
        return None
    key, name, mark, day, weight = row
    place = (name, mark, day)
    if place not in debt.owed or debt.owed[place] != weight:
        return None
    for link in web.links_at(place):
        if link[0] == key:
            return link
    return None


def is_by(thing):
    """Tell of whatever is handed in whether it is a word by which one chain is told."""
    return isinstance(thing, str) and thing in BYS


def may_be_chain(thing):
    """Tell of whatever is handed in whether it is a list of whatever, not too long for a chain."""
    return isinstance(thing, list) and len(thing) <= MOST_ROWS_OF_A_CHAIN


def is_row_of_a_chain(thing):
    """Tell of whatever is handed in whether it is a tuple of a key, a name, a mark, a day and a fraction."""
    if not isinstance(thing, tuple) or len(thing) != 5:
        return False
    key, name, mark, day, weight = thing
    return is_key(key) and is_name(name) and is_point(mark) and is_day(day) and is_fraction(weight)
