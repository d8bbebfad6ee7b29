"""The marks of things: a scale goes straight between its marks, a box is a set of pieces."""

from truechain.errors import NoSpot, require
from truechain.fractions import added, in_lowest_terms
from truechain.kinds import is_point, is_spot

FEWEST_MARKS = {"scale": 2, "box": 1}
MOST_MARKS = 8
WHOLE = (1, 1)


class Scale:
    """The marks of a scale, on which a point may also lie between two marks."""

    def __init__(self, marks):
        require(are_marks(marks, "scale"))
        self._marks = tuple(marks)

    def marks(self):
        """Tell the marks, rising."""
        return list(self._marks)

    def fits(self, spot):
        """Tell whether each point of a spot is from the first mark to the last."""
        require(is_spot(spot))
        return self._marks[0] <= spot[0] and spot[-1] <= self._marks[-1]

    def mix(self, spot):
        """Tell as tuples (mark, weight), by rising marks, what a spot counts at the marks."""
        if not self.fits(spot):
            raise NoSpot()
        weights = {}
        for point in spot:
            for mark, weight in shares(self._marks, point):
                weights[mark] = added(weights[mark], weight) if mark in weights else weight
        return sorted(weights.items())


class Box:
    """The marks of a box, each of which is a piece."""

    def __init__(self, marks):
        require(are_marks(marks, "box"))
        self._marks = tuple(marks)

    def marks(self):
        """Tell the marks, rising."""
        return list(self._marks)

    def fits(self, spot):
        """Tell whether each point of a spot is a mark, and none stands twice."""
        require(is_spot(spot))
        return all(point in self._marks for point in spot) and do_rise(spot)

    def mix(self, spot):
        """Tell as tuples (mark, weight), by rising marks, what a spot counts at the marks."""
        if not self.fits(spot):
            raise NoSpot()
        return [(mark, WHOLE) for mark in spot]


def marks_of(sort, marks):
    """Tell the marks of a thing of this sort, "scale" or "box"."""
    require(is_sort(sort), is_sort(sort) and are_marks(marks, sort))
    if sort == "scale":
        return Scale(marks)
    return Box(marks)


def is_sort(thing):
    """Tell of whatever is handed in whether it is a sort's word."""
    return isinstance(thing, str) and thing in FEWEST_MARKS


def are_marks(thing, sort):
    """Tell of whatever is handed in whether it is a rising list of as many marks as a thing of this sort may have."""
    if not isinstance(thing, list) or not FEWEST_MARKS[sort] <= len(thing) <= MOST_MARKS:
        return False
    return all(is_point(mark) for mark in thing) and do_rise(thing)


def do_rise(numbers):
    """Tell of a list of numbers whether each is above the one ahead."""
    return all(numbers[at - 1] < numbers[at] for at in range(1, len(numbers)))


def shares(marks, point):
    """Tell as pairs (mark, weight) what a point, not beyond the outer marks of a scale, counts at its marks."""
    if point in marks:
        return [(point, WHOLE)]
    above = min([mark for mark in marks if mark > point])
    below = max([mark for mark in marks if mark < point])
    gap = above - below
    return [(below, in_lowest_terms(above - point, gap)), (above, in_lowest_terms(point - below, gap))]
