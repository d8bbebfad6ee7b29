"""The book, which keeps papers by their keys and tells what comes of those that stand."""

from truechain.course import course_of
from truechain.errors import NoPaper, NoSpot, NoThing, TooMany, Twice, require
from truechain.kinds import is_day, is_key, is_name, is_point
from truechain.papers import KEY_AT, KIND_AT, copy_of, fault_in
from truechain.things import line_of
from truechain.words import STANDS

MOST_PAPERS = 60


class Book:
    """Papers by their keys, none at first."""

    def __init__(self):
        self._papers = {}
        # What comes of the papers, None as long as nobody asked for it: most is put in a row.
        self._course = None

    def put(self, paper):
        """Keep a paper."""
        require(fault_in(paper) is None)
        if paper[KEY_AT] in self._papers:
            raise Twice(paper[KEY_AT])
        if len(self._papers) >= MOST_PAPERS:
            raise TooMany(MOST_PAPERS)
        self._papers[paper[KEY_AT]] = copy_of(paper)
        self._course = None

    def strike(self, key):
        """Let the paper of a key go."""
        require(is_key(key))
        self._require_kept(key)
        del self._papers[key]
        self._course = None

    def kept(self):
        """Tell the kept keys, rising."""
        return sorted(self._papers)

    def paper(self, key):
        """Tell the paper of a key."""
        require(is_key(key))
        self._require_kept(key)
        return copy_of(self._papers[key])

    def word(self, key):
        """Tell the word of the paper of a key."""
        require(is_key(key))
        self._require_kept(key)
        return self.course().words[key]

    def would(self, paper):
        """Tell the word that a paper would have if it were put."""
        require(fault_in(paper) is None)
        if paper[KEY_AT] in self._papers:
            raise Twice(paper[KEY_AT])
        return course_of(list(self._papers.values()) + [paper]).words[paper[KEY_AT]]

    def thing(self, name):
        """Tell of a thing its sort, level, rate, marks, beginning and end."""
        require(is_name(name))
        found = self._found(name)
        return (found.kind, found.level, found.rate, found.shape.marks(), found.begin, found.end)

    def there(self, name, day):
        """Tell whether a thing is there on a day."""
        require(is_name(name), is_day(day))
        return self._found(name).is_there(day)

    def harmed(self, name, day):
        """Tell whether a thing is harmed on a day, all papers of that day counted."""
        require(is_name(name), is_day(day))
        return self._found(name).is_harmed(day)

    def breaks(self, name):
        """Tell the breaks of a thing, rising, each day once."""
        require(is_name(name))
        return sorted(set(self._found(name).broken))

    def own(self, name):
        """Tell the keys of a thing's own holdings, in order of time."""
        require(is_name(name))
        return [holding.key for holding in self._found(name).holdings]

    def line(self, name, mark):
        """Tell the line of a mark as tuples (name, mark): the thing's own, then the piece it was made of, and so on."""
        require(is_name(name), is_point(mark))
        if not self._found(name).has_mark(mark):
            raise NoSpot()
        return line_of(self.course().things, name, mark)

    def readings(self):
        """Tell the keys of the readings that stand, rising."""
        return self._standing("read")

    def offs(self):
        """Tell the keys of the off papers that stand, rising."""
        return self._standing("off")

    def copied(self):
        """Tell a book with the same papers that goes on by itself."""
        other = Book()
        for paper in self._papers.values():
            other.put(paper)
        return other

    def course(self):
        """Tell what comes of the papers: for modules of the package, that change nothing of it."""
        if self._course is None:
            self._course = course_of(list(self._papers.values()))
        return self._course

    def _require_kept(self, key):
        """Refuse a key of which no paper is kept."""
        if key not in self._papers:
            raise NoPaper(key)

    def _found(self, name):
        """Tell the thing of a name."""
        things = self.course().things
        if name not in things:
            raise NoThing(name)
        return things[name]

    def _standing(self, kind):
        """Tell the keys of the papers of a kind that stand, rising."""
        words = self.course().words
        return [key for key in self.kept() if self._papers[key][KIND_AT] == kind and words[key] == STANDS]
