"""Stretches: tuples (low, high) of fractions, low not above high."""

from truechain.errors import require
from truechain.fractions import (
    LONGEST_LIST, added, compared, is_fraction, multiplied, negative, outermost, summed,
)

MOST_STRETCHES = 60


def is_stretch(thing):
    """Tell of whatever is handed in whether it is a stretch."""
    if not isinstance(thing, tuple) or len(thing) != 2:
        return False
    low, high = thing
    return is_fraction(low) and is_fraction(high) and compared(low, high) != 1


def widened(stretch, by):
    """Tell a stretch widened to both sides by a fraction that is not below nought."""
    require(is_stretch(stretch), is_width(by))
    return stretched(stretch, by)


def mixed(parts):
    """Tell the sum of the stretches of a list of pairs (weight, stretch), each times its weight."""
    require(is_mixture(parts))
    low = summed([multiplied(weight, stretch[0]) for weight, stretch in parts])
    high = summed([multiplied(weight, stretch[1]) for weight, stretch in parts])
    return (low, high)


def meeting(some):
    """Tell what the stretches of a list have in common, or None where they don't meet."""
    require(is_list_of_stretches(some))
    low, high = innermost(some)
    if compared(low, high) == 1:
        return None
    return (low, high)


def apart(some):
    """Tell the places of two stretches of a list that don't meet, or None where all meet."""
    require(is_list_of_stretches(some))
    low, high = innermost(some)
    if compared(low, high) != 1:
        return None
    # A fraction has one form alone, so that the first equal one is the first of those as great.
    return ([stretch[0] for stretch in some].index(low), [stretch[1] for stretch in some].index(high))


def holds(stretch, worth):
    """Tell whether a fraction is neither below a stretch's low end nor above its high end."""
    require(is_stretch(stretch), is_fraction(worth))
    return compared(stretch[0], worth) != 1 and compared(worth, stretch[1]) != 1


def width(stretch):
    """Tell the high end of a stretch less its low end."""
    require(is_stretch(stretch))
    return added(stretch[1], negative(stretch[0]))


def is_width(thing):
    """Tell whether it is a fraction that is not below nought."""
    return is_fraction(thing) and thing[0] >= 0


def is_mixture(thing):
    """Tell whether it is a list of pairs (weight, stretch) that is not too long."""
    if not isinstance(thing, list) or len(thing) > LONGEST_LIST:
        return False
    return all(is_weighted(pair) for pair in thing)


def is_weighted(thing):
    """Tell whether it is a pair (weight, stretch)."""
    return isinstance(thing, tuple) and len(thing) == 2 and is_width(thing[0]) and is_stretch(thing[1])


def is_list_of_stretches(thing):
    """Tell whether it is a list of one stretch or more, but not too many."""
    if not isinstance(thing, list) or not 1 <= len(thing) <= MOST_STRETCHES:
        return False
    return all(is_stretch(stretch) for stretch in thing)


def stretched(ends, by):
    """Tell two ends, in whatever order they are, with the low one so much less and the high one so much more."""
    return (added(ends[0], negative(by)), added(ends[1], by))


def innermost(some):
    """Tell the greatest low end and the least high end of a list of stretches."""
    low = outermost([stretch[0] for stretch in some], 1)
    high = outermost([stretch[1] for stretch in some], -1)
    return (low, high)
