"""Offers: holdings that could be made on a day, and how near some spots would be brought by them."""

from truechain.book import MOST_PAPERS, Book
from truechain.chains import rows_by
from truechain.doubts import windows_of_all
from truechain.errors import NoOffer, TooMany, require
from truechain.fractions import NOUGHT, compared
from truechain.kinds import is_day, is_key, is_name, is_spot
from truechain.links import link_of, wanted
from truechain.papers import are_rows, is_worth_of
from truechain.routes import Routes, Web
from truechain.things import held_holding
from truechain.words import STANDS

MOST_OFFERS = 8
MOST_WISHES = 6


class Trial:
    """Wishes on a day, tried with all of the offers or with some."""

    def __init__(self, book, day, offers, wishes):
        things = book.course().things
        self.day = day
        self.offered = [offer[0] for offer in offers]
        self.widths = [wish[2] for wish in wishes]
        self.wanted = [wanted(things, name, spot, day) for name, spot, _ in wishes]
        web = Web(things, windows_of_all(book), links_of_offers(things, day, offers))
        self.routes = Routes(web, "near")

    def routes_by(self, chosen):
        """Tell the routes by the links of the chosen offers, told by their places, and by none of the other ones."""
        left_out = [key for at, key in enumerate(self.offered) if at not in chosen]
        return self.routes.without(left_out, self.day)

    def met_by(self, routes):
        """Tell of each wish whether it is met by some routes."""
        return [is_met(routes.cost_of(parts), width) for parts, width in zip(self.wanted, self.widths)]


def near_with(book, day, offers, name, spot):
    """Tell the least width of a spot's chains on a day, all offers taken, and its nearest chain, or None."""
    require(isinstance(book, Book), is_day(day), are_offers(offers), is_name(name), is_spot(spot))
    require_offers(book, day, offers)
    trial = Trial(book, day, offers, [(name, spot, NOUGHT)])
    width = trial.routes.cost_of(trial.wanted[0])
    if width is None:
        return None
    return (width, rows_by(trial.routes, trial.wanted[0]))


def met(book, day, offers, wishes):
    """Tell of each wish whether it is met on a day, all offers taken."""
    require(isinstance(book, Book), is_day(day), are_offers(offers), are_wishes(wishes))
    require_offers(book, day, offers)
    trial = Trial(book, day, offers, wishes)
    return trial.met_by(trial.routes)


def is_met(found, width):
    """Tell whether a least width, None where there is no chain, is not above the wished one."""
    return found is not None and compared(found, width) != 1


def require_offers(book, day, offers):
    """Refuse too many papers and offers, and the first offer that can't be held on a day."""
    kept = book.kept()
    if len(kept) + len(offers) > MOST_PAPERS:
        raise TooMany(MOST_PAPERS)
    for at, offer in enumerate(offers):
        key = offer[0]
        if key in kept or key in [ahead[0] for ahead in offers[:at]]:
            raise NoOffer(at)
        if book.would(paper_of_offer(day, offer)) != STANDS:
            raise NoOffer(at)


def paper_of_offer(day, offer):
    """Tell the held paper that an offer would be on a day, had nothing differed, for that day alone."""
    key, name, finer, told = offer
    rows = [(mark, list(spot), NOUGHT, slack) for mark, spot, slack in told]
    return (key, day, "held", name, finer, 0, rows)


def links_of_offers(things, day, offers):
    """Tell the links that offers bring on their day, by the places (name, mark, day)."""
    found = {}
    for offer in offers:
        _, name, finer, _ = offer
        holding = held_holding(paper_of_offer(day, offer), things[finer])
        for mark in holding.rows:
            found.setdefault((name, mark, day), []).append(link_of(holding, mark, NOUGHT))
    return found


def are_offers(thing):
    """Tell of whatever is handed in whether it is a list of offers that is not too long."""
    if not isinstance(thing, list) or len(thing) > MOST_OFFERS:
        return False
    return all(is_offer(one) for one in thing)


def is_offer(thing):
    """Tell of whatever is handed in whether it is an offer."""
    if not isinstance(thing, tuple) or len(thing) != 4:
        return False
    key, name, finer, rows = thing
    return is_key(key) and is_name(name) and is_name(finer) and are_rows(rows, "offer")


def are_wishes(thing):
    """Tell of whatever is handed in whether it is a list of wishes that is not too long."""
    if not isinstance(thing, list) or len(thing) > MOST_WISHES:
        return False
    return all(is_wish(one) for one in thing)


def is_wish(thing):
    """Tell of whatever is handed in whether it is a wish."""
    if not isinstance(thing, tuple) or len(thing) != 3:
        return False
    name, spot, width = thing
    return is_name(name) and is_spot(spot) and is_worth_of("width", width)
