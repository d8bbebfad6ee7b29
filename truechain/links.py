"""The links by which a mark of a thing is held on a day, and the mix of a spot at a thing of a book."""

from truechain.book import Book
from truechain.errors import NoSpot, NoThing, require
from truechain.fractions import NOUGHT, added, multiplied
from truechain.kinds import is_day, is_name, is_point, is_spot
from truechain.stretches import stretched
from truechain.things import line_of


def mix_at(book, name, spot):
    """Tell the mix of a spot at a thing of the book, ended or not."""
    require(isinstance(book, Book), is_name(name), is_spot(spot))
    things = book.course().things
    if name not in things:
        raise NoThing(name)
    return things[name].shape.mix(spot)


def links(book, name, mark, day):
    """Tell the links of a mark of a thing on a day, as tuples (key, low, high, parts) by rising keys."""
    require(isinstance(book, Book), is_name(name), is_point(mark), is_day(day))
    things = book.course().things
    require_there(things, name, day)
    if not things[name].has_mark(mark):
        raise NoSpot()
    return links_of(things, name, mark, day)


def require_there(things, name, day):
    """Refuse the name of a thing that is not there on a day."""
    if name not in things or not things[name].is_there(day):
        raise NoThing(name)


def wanted(things, name, spot, day):
    """Tell what is wanted of a spot of a thing on a day, as tuples (weight, name, mark, day)."""
    require_there(things, name, day)
    return [(weight, name, mark, day) for mark, weight in things[name].shape.mix(spot)]


def links_of(things, name, mark, day):
    """Tell the links of a mark on a day on which the thing is there."""
    found = []
    astray = NOUGHT
    until = day
    for elder, piece in line_of(things, name, mark):
        thing = things[elder]
        for holding in usable_holdings(thing, piece, day):
            by = added(astray, gone_astray(thing, holding.day, until))
            found.append(link_of(holding, piece, by))
        if thing.last_break(day) is not None:
            break
        astray = added(astray, gone_astray(thing, thing.begin, until))
        until = thing.begin
    return sorted(found, key=lambda link: link[0])


def usable_holdings(thing, mark, day):
    """Tell the own holdings of a thing that have a row of a mark and still hold on a day."""
    last = thing.last_break(day)
    holdings = [holding for holding in thing.holdings if mark in holding.rows and holding.is_in_term(day)]
    return [holding for holding in holdings if last is None or last <= holding.day]


def gone_astray(thing, first, last):
    """Tell by how much a worth of a thing may go from one day to another one."""
    return multiplied(thing.rate, (last - first, 1))


def link_of(holding, mark, by):
    """Tell the link that a holding is for one of its marks, its ends widened."""
    low, high, parts = holding.rows[mark]
    low, high = stretched((low, high), by)
    return (holding.key, low, high, list(parts))
