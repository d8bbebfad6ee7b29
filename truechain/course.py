"""What comes of papers that are gone through in order of time: their words, and the things that they tell of."""

from truechain.papers import FIRST_AT, KEY_AT, KIND_AT, elders_in, time_of
from truechain.things import Thing, held_holding, told_holding
from truechain.words import STANDS, word_of


class Course:
    """The words of the papers that were gone through, and the things by their names."""

    def __init__(self):
        self.words = {}
        self.things = {}

    def go(self, paper):
        """Go through the next paper in order of time."""
        word = word_of(self.things, paper)
        self.words[paper[KEY_AT]] = word
        if word == STANDS:
            self._count(paper)

    def _count(self, paper):
        """Let a paper that stands count."""
        kind = paper[KIND_AT]
        if kind == "thing":
            self._begin(paper)
        elif kind == "made":
            self._make(paper)
        elif kind == "told":
            self.things[paper[FIRST_AT]].holdings.append(told_holding(paper))
        elif kind == "held":
            finer = self.things[paper[FIRST_AT + 1]]
            self.things[paper[FIRST_AT]].holdings.append(held_holding(paper, finer))
        elif kind != "read":
            self._break(paper)

    def _begin(self, paper):
        """Begin a thing that comes in."""
        _, day, _, name, sort, level, rate, marks = paper
        self.things[name] = Thing(sort, level, rate, marks, day)

    def _make(self, paper):
        """Begin a box, and end the elders whose pieces are its marks from now on."""
        _, day, _, name, rate, rows = paper
        marks = [row[0] for row in rows]
        level = self.things[elders_in(paper)[0]].level
        made = Thing("box", level, rate, marks, day)
        for mark, name_of_elder, piece in rows:
            made.origins[mark] = (name_of_elder, piece)
            elder = self.things[name_of_elder]
            elder.gone[piece] = True
            elder.end = day
        self.things[name] = made

    def _break(self, paper):
        """Break a thing's course, and harm or mend it where the paper says so."""
        _, day, kind, name = paper
        thing = self.things[name]
        thing.broken.append(day)
        if kind != "off":
            thing.turns.append((day, kind == "harmed"))


def course_of(papers):
    """Tell what comes of papers, in whatever order they are handed in."""
    course = Course()
    for paper in sorted(papers, key=time_of):
        course.go(paper)
    return course
