"""The book, the links and the ends once more, written as the document tells them and without regard to time.

It shares nothing with the package, reckons in Python's own fractions, and goes through all chains one by one.
"""

from fractions import Fraction
from itertools import product

ORDER = ("thing", "off", "harmed", "mended", "made", "told", "held", "read")


def told(worth):
    """A worth as the package tells it."""
    return (worth.numerator, worth.denominator)


class Thing:
    """One thing."""

    def __init__(self, sort, level, rate, marks, begin):
        self.sort, self.level, self.rate, self.marks, self.begin = sort, level, rate, marks, begin
        self.end = None
        self.elders = {}
        self.changes = []
        self.own = []

    def has_on(self, day):
        return self.begin <= day and (self.end is None or self.end > day)

    def harmed_on(self, day):
        harmed = False
        for when, kind in self.changes:
            if when <= day and kind != "off":
                harmed = kind == "harmed"
        return harmed

    def fits(self, spot):
        if self.sort == "box":
            return set(spot) <= set(self.marks) and len(set(spot)) == len(spot)
        return min(self.marks) <= min(spot) and max(spot) <= max(self.marks)

    def mix(self, spot):
        """What a spot counts at each mark, by the slope from each mark to its neighbours."""
        found = {}
        for at, mark in enumerate(self.marks):
            count = Fraction(0)
            for point in spot:
                if point == mark:
                    count += 1
                elif self.sort == "scale" and at and self.marks[at - 1] < point < mark:
                    count += Fraction(point - self.marks[at - 1], mark - self.marks[at - 1])
                elif self.sort == "scale" and at + 1 < len(self.marks) and mark < point < self.marks[at + 1]:
                    count += Fraction(self.marks[at + 1] - point, self.marks[at + 1] - mark)
            if count:
                found[mark] = count
        return found


class Model:
    """What some papers come to."""

    def __init__(self, papers):
        self.papers = sorted(papers, key=lambda paper: (paper[1], ORDER.index(paper[2]), paper[0]))
        self.words, self.things, self.taken = {}, {}, set()
        for paper in self.papers:
            self.words[paper[0]] = word = self.word(paper)
            if word == "stands":
                self.let_stand(paper)

    def named(self, paper):
        """The names of the things that must be there."""
        if paper[2] == "thing":
            return set()
        if paper[2] == "made":
            return {elder for _, elder, _ in paper[5]}
        return {paper[3], paper[4]} if paper[2] == "held" else {paper[3]}

    def word(self, paper):
        _, day, kind, name, *rest = paper
        named = self.named(paper)
        if kind in ("thing", "made") and name in self.things:
            return "taken"
        if named - set(self.things):
            return "lacking"
        things = [self.things[one] for one in named]
        if kind == "made" and any(thing.begin == day for thing in things):
            return "lacking"
        if any(thing.end is not None and (kind != "made" or thing.end != day) for thing in things):
            return "ended"
        if kind in ("told", "held", "made", "read") and any(thing.harmed_on(day) for thing in things):
            return "harmed"
        return "unfit" if self.is_unfit(kind, name, rest) else "stands"

    def is_unfit(self, kind, name, rest):
        things = self.things
        if kind == "told":
            return things[name].level > 0 or any(row[0] not in things[name].marks for row in rest[1])
        if kind == "read":
            return not things[name].fits(rest[0])
        if kind == "held":
            thing, finer = things[name], things[rest[0]]
            return finer.level >= thing.level or any(
                row[0] not in thing.marks or not finer.fits(row[1]) for row in rest[2])
        if kind == "made":
            elders = [things[elder] for _, elder, _ in rest[1]]
            return (any(elder.sort != "box" for elder in elders) or len({elder.level for elder in elders}) > 1
                    or any(piece not in things[elder].marks or (elder, piece) in self.taken
                           for _, elder, piece in rest[1]))
        return False

    def let_stand(self, paper):
        _, day, kind, name, *rest = paper
        if kind == "thing":
            self.things[name] = Thing(*rest, day)
        elif kind == "made":
            rate, rows = rest
            made = Thing("box", self.things[rows[0][1]].level, rate, [row[0] for row in rows], day)
            for mark, elder, piece in rows:
                self.things[elder].end = day
                self.taken.add((elder, piece))
                made.elders[mark] = (elder, piece)
            self.things[name] = made
        elif kind in ("told", "held"):
            self.things[name].own.append(paper)
        elif kind != "read":
            self.things[name].changes.append((day, kind))

    def standing(self, kind):
        return sorted(paper[0] for paper in self.papers if paper[2] == kind and self.words[paper[0]] == "stands")

    def breaks(self, name):
        return sorted({day for day, _ in self.things[name].changes})

    def line(self, name, mark):
        line = [(name, mark)]
        while line[-1][1] in self.things[line[-1][0]].elders:
            line.append(self.things[line[-1][0]].elders[line[-1][1]])
        return line

    def links(self, name, mark, day):
        """The links of a mark on a day: as (key, low, high, parts), weights and ends as Python's own fractions."""
        found = []
        line = self.line(name, mark)
        for at, (owner, piece) in enumerate(line):
            if any(one <= day for ahead, _ in line[:at] for one in self.breaks(ahead)):
                continue
            for paper in self.things[owner].own:
                for row in paper[-1]:
                    if row[0] == piece and self.still_holds(owner, paper, day):
                        found.append(self.link(line[:at + 1], paper, row, day))
        return sorted(found, key=lambda link: link[0])

    def still_holds(self, owner, paper, day):
        return paper[1] <= day <= paper[1] + paper[-2] and not any(paper[1] < one <= day for one in self.breaks(owner))

    def link(self, line, paper, row, day):
        if paper[2] == "told":
            low, high, parts = Fraction(*row[1]), Fraction(*row[2]), []
        else:
            low, high = Fraction(*row[2]) - Fraction(*row[3]), Fraction(*row[2]) + Fraction(*row[3])
            mix = self.things[paper[4]].mix(row[1])
            parts = [(weight, paper[4], mark, paper[1]) for mark, weight in sorted(mix.items())]
        # Day by day the piece is a mark of just one thing of the line.
        for one in range(paper[1], day):
            rate, = [Fraction(*self.things[name].rate) for name, _ in line if self.things[name].has_on(one)]
            low, high = low - rate, high + rate
        return (paper[0], low, high, parts)

    def open_links(self, name, mark, day, shut):
        """The links, none where the mark lies in a window on the day."""
        if any((name, mark) == window[:2] and window[2] <= day < window[3] for window in shut):
            return []
        return self.links(name, mark, day)

    def many(self, parts, shut, known):
        """How many chains some parts have."""
        count = 1
        for _, *place in parts:
            if tuple(place) not in known:
                known[tuple(place)] = sum(self.many(link[3], shut, known) for link in self.open_links(*place, shut))
            count *= known[tuple(place)]
        return count

    def chains(self, parts, shut):
        """The ends of all chains of some parts."""
        found = []
        for choice in product(*[self.chains_of_mark(*place, shut) for _, *place in parts]):
            found.append((sum((part[0] * ends[0] for part, ends in zip(parts, choice)), Fraction(0)),
                          sum((part[0] * ends[1] for part, ends in zip(parts, choice)), Fraction(0))))
        return found

    def chains_of_mark(self, name, mark, day, shut):
        found = []
        for _, low, high, parts in self.open_links(name, mark, day, shut):
            found.extend((low + ends[0], high + ends[1]) for ends in self.chains(parts, shut))
        return found

    def wanted(self, name, spot, day):
        return [(weight, name, mark, day) for mark, weight in sorted(self.things[name].mix(spot).items())]

    def ends(self, name, spot, day, shut):
        chains = self.chains(self.wanted(name, spot, day), shut)
        if not chains:
            return None
        return (told(max(low for low, _ in chains)), told(min(high for _, high in chains)))
