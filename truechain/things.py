"""Things as papers that stand tell of them, and the holdings of a thing."""

from truechain.marks import marks_of
from truechain.papers import DAY_AT, KEY_AT, ROWS_AT, TERM_AT
from truechain.stretches import stretched


class Thing:
    """What the papers that stand tell of one thing, as far as they were gone through."""

    def __init__(self, sort, level, rate, marks, begin):
        self.kind = sort
        self.level = level
        self.rate = rate
        self.shape = marks_of(sort, marks)
        self.begin = begin
        self.end = None
        # The elder and the piece that a mark of a made box was, and the pieces that boxes took of this thing.
        self.origins = {}
        self.gone = {}
        self.broken = []
        self.turns = []
        self.holdings = []

    def has_mark(self, mark):
        """Tell whether this is one of the marks."""
        return mark in self.shape.marks()

    def is_there(self, day):
        """Tell whether the thing has begun by a day, and not ended by then."""
        return self.begin <= day and (self.end is None or day < self.end)

    def is_harmed(self, day):
        """Tell whether the thing is harmed on a day, all papers of that day that were gone through counted."""
        turns = [is_harm for turn, is_harm in self.turns if turn <= day]
        return turns != [] and turns[-1]

    def last_break(self, day):
        """Tell the last break that is not behind a day, or None."""
        return max([broken for broken in self.broken if broken <= day], default=None)


class Holding:
    """A told or held paper that stands: of each mark in it the two ends, and the parts these are held against."""

    def __init__(self, paper, rows):
        self.key = paper[KEY_AT]
        self.day = paper[DAY_AT]
        self.term = paper[TERM_AT]
        self.rows = rows

    def is_in_term(self, day):
        """Tell whether the holding is not behind a day, and its term has not run out by then."""
        return self.day <= day <= self.day + self.term


def told_holding(paper):
    """Tell the holding that a told paper is."""
    return Holding(paper, {mark: (low, high, []) for mark, low, high in paper[ROWS_AT]})


def held_holding(paper, finer):
    """Tell the holding that a held paper is, by the finer thing that it names."""
    _, day, _, _, name, _, told = paper
    rows = {}
    for mark, spot, difference, slack in told:
        low, high = stretched((difference, difference), slack)
        rows[mark] = (low, high, [(weight, name, point, day) for point, weight in finer.shape.mix(spot)])
    return Holding(paper, rows)


def line_of(things, name, mark):
    """Tell the line of a mark as tuples (name, mark): the thing's own, then the piece it was made of, and so on."""
    line = [(name, mark)]
    origins = things[name].origins
    while mark in origins:
        name, mark = origins[mark]
        line.append((name, mark))
        origins = things[name].origins
    return line
