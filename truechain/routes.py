"""The best ways down from marks on days to told ends: each mark on each day is looked at once."""

from truechain.fractions import NOUGHT, added, compared, multiplied, negative
from truechain.links import links_of
from truechain.shutters import Shutters

DAY_OF_PLACE = 2


class Web:
    """The links of marks on days, but those that shut windows hide.

    A mark on a day is a place here, told as (name, mark, day). Links that are offered come as a dict of lists.
    """

    def __init__(self, things, windows, offered):
        self.things = things
        self.offered = offered
        self.shutters = Shutters(windows)
        self.known = {}

    def links_at(self, place):
        """Tell the links at a place, by rising keys."""
        if place not in self.known:
            self.known[place] = self._looked_for(place)
        return self.known[place]

    def _looked_for(self, place):
        """Look for the links at a place."""
        name, mark, day = place
        if self.shutters.hides(name, mark, day):
            return []
        found = links_of(self.things, name, mark, day) + self.offered.get(place, [])
        return sorted(found, key=lambda link: link[0])


class Routes:
    """The best links at places by "low", "high" or "near", and what the chains by these cost.

    The best chain is the one that costs least: by "low" its low end with the other sign, by "high" its high end, by
    "near" its width. Weights are above nought, so that the best links at the places below make the best chain of all.
    """

    def __init__(self, web, by):
        self.web = web
        self.by = by
        self.barred = []
        self.known = {}

    def without(self, keys, day):
        """Tell routes by the same links but those of some keys, which are links of places on this one day."""
        other = Routes(self.web, self.by)
        other.barred = keys
        other.known = {place: best for place, best in self.known.items() if place[DAY_OF_PLACE] != day}
        return other

    def best_at(self, place):
        """Tell the cost from a place on and the link by which it is reached, or None where no chain goes on."""
        if place not in self.known:
            self.known[place] = self._looked_for(place)
        return self.known[place]

    def cost_of(self, parts):
        """Tell what tuples (weight, name, mark, day) cost together, or None where one of them has no chain."""
        cost = NOUGHT
        for weight, name, mark, day in parts:
            best = self.best_at((name, mark, day))
            if best is None:
                return None
            cost = added(cost, multiplied(weight, best[0]))
        return cost

    def below_best(self, place):
        """Tell the parts of the best link at a place that has one."""
        return self.best_at(place)[1][3]

    def below_all(self, place):
        """Tell the parts of all links at a place by which a chain goes on."""
        found = []
        for _, _, _, parts in self.web.links_at(place):
            if all([self.best_at(below) is not None for below in places_in(parts)]):
                found.extend(parts)
        return found

    def _looked_for(self, place):
        """Look for the best link at a place, of several as good ones that of the least key."""
        best = None
        for link in self.web.links_at(place):
            cost = None if link[0] in self.barred else self._cost_by(link)
            if cost is not None and (best is None or compared(cost, best[0]) == -1):
                best = (cost, link)
        return best

    def _cost_by(self, link):
        """Tell what the best chain by a link costs, or None where there is none."""
        _, low, high, parts = link
        cost = self.cost_of(parts)
        if cost is None:
            return None
        if self.by != "high":
            cost = added(cost, negative(low))
        if self.by != "low":
            cost = added(cost, high)
        return cost


def places_in(parts):
    """Tell the places of parts, in their order."""
    return [(name, mark, day) for _, name, mark, day in parts]


def places_from(things, parts, below):
    """Tell all places that are reached from parts on, in the order in which they are paid.

    Of a place it is told by `below` which parts are behind it.
    """
    found = {}
    waiting = places_in(parts)
    while waiting:
        place = waiting.pop()
        if place not in found:
            found[place] = True
            waiting.extend(places_in(below(place)))
    rows = sorted([(-things[name].level, name, day, mark) for name, mark, day in found])
    return [(name, mark, day) for _, name, day, mark in rows]
