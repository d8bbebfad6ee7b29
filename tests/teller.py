"""Chains, doubts, answers, plans once more, as the document tells them: all chains are gone through one by one."""

from fractions import Fraction
from itertools import combinations, product

from tests.model import Model, told

LAST_DAY = 10 ** 6


class Chain:
    """One chain: its ends, and the marks on days that it has links of."""

    def __init__(self, low, high, places):
        self.low, self.high, self.places = low, high, places

    def goes_through(self, shut):
        return any(window[:2] == place[:2] and window[2] <= place[2] < window[3]
                   for window in shut for place in self.places)

    def worth(self, by):
        """The less it is, the better is the chain."""
        return {"low": -self.low, "high": self.high, "near": self.high - self.low}[by]


class Teller(Model):
    """What some papers come to, told chain by chain."""

    def __init__(self, papers):
        super().__init__(papers)
        self.of_places = {}

    def all_chains(self, parts):
        """All chains of some parts."""
        found = []
        for choice in product(*[self.all_of_place(tuple(place)) for _, *place in parts]):
            found.append(Chain(
                sum((part[0] * one.low for part, one in zip(parts, choice)), Fraction(0)),
                sum((part[0] * one.high for part, one in zip(parts, choice)), Fraction(0)),
                frozenset().union(*[one.places for one in choice])))
        return found

    def all_of_place(self, place):
        if place not in self.of_places:
            self.of_places[place] = [
                Chain(low + one.low, high + one.high, one.places | {place})
                for _, low, high, parts in self.links(*place) for one in self.all_chains(parts)]
        return self.of_places[place]

    def sure(self, parts, shut):
        return [one for one in self.all_chains(parts) if not one.goes_through(shut)]

    def ends_of(self, parts, shut):
        found = self.sure(parts, shut)
        if not found:
            return None
        return (told(max(one.low for one in found)), told(min(one.high for one in found)))

    def order(self, place):
        name, mark, day = place
        return (-self.things[name].level, name, day, mark)

    def chosen(self, place, shut, by):
        """The link by which a mark on a day reaches the best, of several that of the least key."""
        best = None
        for link in self.links(*place):
            for one in self.all_chains(link[3]):
                one = Chain(link[1] + one.low, link[2] + one.high, one.places | {place})
                if not one.goes_through(shut):
                    found = (one.worth(by), link[0])
                    if best is None or found < best[0]:
                        best = (found, link)
        return best[1]

    def chain(self, parts, shut, by):
        """The rows of the told chain."""
        if not self.sure(parts, shut):
            return None
        owed = [((name, mark, day), weight) for weight, name, mark, day in parts]
        rows = []
        while owed:
            place = min((place for place, _ in owed), key=self.order)
            weight = sum(more for one, more in owed if one == place)
            link = self.chosen(place, shut, by)
            rows.append((link[0], *place, told(weight)))
            owed = [one for one in owed if one[0] != place]
            owed.extend(((name, mark, day), share * weight) for share, name, mark, day in link[3])
        return rows

    def nearest(self, parts, shut):
        found = self.sure(parts, shut)
        return told(min(one.high - one.low for one in found)) if found else None

    def quarrels(self, parts, shut):
        places = frozenset().union(*[one.places for one in self.sure(parts, shut)])
        crossed = []
        for place in places:
            low, high = self.ends_of([(Fraction(1), *place)], shut)
            if Fraction(*low) > Fraction(*high):
                crossed.append(place)
        return sorted(crossed, key=self.order)

    def doubt_days(self, key):
        """The days on which each mark is in doubt by an off paper, as tuples (name, mark, day)."""
        paper, = [paper for paper in self.papers if paper[0] == key]
        found = set()
        for mark in self.things[paper[3]].marks:
            day = paper[1] - 1
            name = paper[3]
            while True:
                held = [own[1] for own in self.things[name].own if mark in [row[0] for row in own[-1]]]
                while day >= self.things[name].begin and day not in held:
                    found.add((name, mark, day))
                    day -= 1
                if day >= self.things[name].begin or mark not in self.things[name].elders:
                    break
                day = self.things[name].begin
                name, mark = self.things[name].elders[mark]
        return found

    def windows(self, key=None):
        """A window for each mark and day in doubt."""
        keys = self.standing("off") if key is None else [key]
        return sorted({(name, mark, day, day + 1) for one in keys for name, mark, day in self.doubt_days(one)})

    def reading(self, key):
        paper, = [paper for paper in self.papers if paper[0] == key]
        return self.wanted(paper[3], paper[4], paper[1])

    def doubted(self, key):
        shut = self.windows(key)
        found = []
        for reading in self.standing("read"):
            parts = self.reading(reading)
            word = "sure" if self.sure(parts, shut) else "doubtful" if self.all_chains(parts) else "bare"
            found.append((reading, word, self.chain(parts, shut if word == "sure" else [], "low")))
        return found

    def answer(self, key):
        parts = self.reading(key)
        ends = self.ends_of(parts, self.windows())
        if ends is not None:
            return ("within" if Fraction(*ends[0]) <= Fraction(*ends[1]) else "apart", *ends)
        return ("doubtful",) if self.all_chains(parts) else ("bare",)

    def answers(self):
        return [(key, self.answer(key)) for key in self.standing("read")]

    def lasts(self, name, spot, day, until):
        """The last day of a spot, gone through day by day, LAST_DAY where it goes on up to some day."""
        shut = self.windows()
        for one in range(day, until + 1):
            if not self.things[name].has_on(one) or not self.sure(self.wanted(name, spot, one), shut):
                return one - 1 if one > day else None
        return LAST_DAY

    def with_offers(self, day, offers):
        """What the papers come to with some offers held on a day, nothing differing."""
        return Teller(self.papers + [
            (key, day, "held", name, finer, 0, [(mark, spot, (0, 1), slack) for mark, spot, slack in rows])
            for key, name, finer, rows in offers])

    def near_with(self, day, offers, name, spot):
        shut = self.windows()
        other = self.with_offers(day, offers)
        parts = other.wanted(name, spot, day)
        width = other.nearest(parts, shut)
        return None if width is None else (width, other.chain(parts, shut, "near"))

    def met(self, day, offers, wishes):
        found = [self.near_with(day, offers, name, spot) for name, spot, _ in wishes]
        return [one is not None and Fraction(*one[0]) <= Fraction(*wish[2]) for one, wish in zip(found, wishes)]

    def plan(self, day, offers, wishes):
        met = self.met(day, offers, wishes)
        if False in met:
            at = met.index(False)
            found = self.near_with(day, offers, *wishes[at][:2])
            return ("never", at, found and found[1])
        choices = [choice for many in range(len(offers) + 1) for choice in combinations(range(len(offers)), many)]
        choice = min((one for one in choices if all(self.met(day, [offers[at] for at in one], wishes))),
                     key=lambda one: (len(one), one))
        taken = [offers[at] for at in choice]
        return ("plan", [offer[0] for offer in taken],
                [self.near_with(day, taken, name, spot)[1] for name, spot, _ in wishes])

    def needed(self, day, offers, wishes):
        return [offer[0] for offer in offers
                if False in self.met(day, [one for one in offers if one is not offer], wishes)]
