"""Plans: the fewest of the offered holdings with which all wishes are met."""

from itertools import combinations

from truechain.book import Book
from truechain.chains import rows_by
from truechain.errors import require
from truechain.kinds import is_day
from truechain.offers import Trial, are_offers, are_wishes, require_offers


def plan(book, day, offers, wishes):
    """Tell the fewest offers with which all wishes are met, or a wish that is never met.

    Told is ("plan", keys, chains), or ("never", at, rows) with the place of the wish and its nearest chain or None.
    """
    require(isinstance(book, Book), is_day(day), are_offers(offers), are_wishes(wishes))
    require_offers(book, day, offers)
    trial = Trial(book, day, offers, wishes)
    answers = trial.met_by(trial.routes)
    if not all(answers):
        at = answers.index(False)
        return ("never", at, rows_by(trial.routes, trial.wanted[at]))
    chosen = fewest(trial)
    routes = trial.routes_by(chosen)
    return ("plan", [trial.offered[at] for at in chosen], [rows_by(routes, parts) for parts in trial.wanted])


def needed(book, day, offers, wishes):
    """Tell the keys of the offers without which, all others taken, some wish is not met."""
    require(isinstance(book, Book), is_day(day), are_offers(offers), are_wishes(wishes))
    require_offers(book, day, offers)
    trial = Trial(book, day, offers, wishes)
    many = len(offers)
    return [trial.offered[at] for at in range(many) if not does_do(trial, [one for one in range(many) if one != at])]


def fewest(trial):
    """Tell the places of the fewest offers with which all wishes are met, of as few ones the first choice."""
    many = len(trial.offered)
    for size in range(many):
        # They come by their places, compared from the first place on.
        for chosen in combinations(range(many), size):
            if does_do(trial, chosen):
                return list(chosen)
    return list(range(many))


def does_do(trial, chosen):
    """Tell whether all wishes are met with the chosen offers."""
    return all(trial.met_by(trial.routes_by(chosen)))
