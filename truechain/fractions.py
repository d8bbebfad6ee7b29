"""Exact fractions: tuples (top, bottom) of whole numbers in lowest terms, the bottom from 1 on."""

from math import gcd

from truechain.errors import require
from truechain.kinds import is_whole

NOUGHT = (0, 1)
SMALL_TOP = 10 ** 12
SMALL_BOTTOM = 1000
LONGEST_LIST = 1000


def is_fraction(thing):
    """Tell of whatever is handed in whether it is a fraction."""
    if not isinstance(thing, tuple) or len(thing) != 2:
        return False
    top, bottom = thing
    if not is_whole(top) or not is_whole(bottom) or bottom < 1:
        return False
    return gcd(top, bottom) == 1


def is_small(thing):
    """Tell of whatever is handed in whether it is a small fraction."""
    if not is_fraction(thing):
        return False
    top, bottom = thing
    return -SMALL_TOP <= top <= SMALL_TOP and bottom <= SMALL_BOTTOM


def fraction(top, bottom):
    """Tell the fraction that a top parted by a bottom other than 0 is."""
    require(is_whole(top), is_whole(bottom) and bottom != 0)
    return in_lowest_terms(top, bottom)


def plus(one, other):
    """Tell one fraction more another one."""
    require(is_fraction(one), is_fraction(other))
    return added(one, other)


def less(one, other):
    """Tell one fraction less another one."""
    require(is_fraction(one), is_fraction(other))
    return added(one, negative(other))


def times(one, other):
    """Tell one fraction times another one."""
    require(is_fraction(one), is_fraction(other))
    return multiplied(one, other)


def order(one, other):
    """Tell whether one fraction is less than another one (-1), as much (0) or more (1)."""
    require(is_fraction(one), is_fraction(other))
    return compared(one, other)


def total(some):
    """Tell what the fractions of a list are together, nought where it holds none."""
    require(is_list_of_fractions(some, 0))
    return summed(some)


def least(some):
    """Tell the least fraction of a list that holds one at least."""
    require(is_list_of_fractions(some, 1))
    return outermost(some, -1)


def greatest(some):
    """Tell the greatest fraction of a list that holds one at least."""
    require(is_list_of_fractions(some, 1))
    return outermost(some, 1)


def is_list_of_fractions(thing, fewest):
    """Tell whether it is a list of fractions, neither fewer than this nor too many."""
    if not isinstance(thing, list) or not fewest <= len(thing) <= LONGEST_LIST:
        return False
    return all(is_fraction(one) for one in thing)


def in_lowest_terms(top, bottom):
    """Tell the fraction that a top parted by a bottom is, both known to be as told."""
    common = gcd(top, bottom)
    if bottom < 0:
        common = -common
    return (top // common, bottom // common)


def added(one, other):
    """Tell the sum of two things that are known to be fractions."""
    # What divides the sum's top and bottom divides both bottoms, too: to look
    # for it there takes far less long than in the sum, where numbers are long.
    common = gcd(one[1], other[1])
    part = one[1] // common
    top = one[0] * (other[1] // common) + other[0] * part
    rest = gcd(top, common)
    return (top // rest, part * (other[1] // rest))


def negative(one):
    """Tell how much less than nought a thing is that is known to be a fraction."""
    top, bottom = one
    return (-top, bottom)


def multiplied(one, other):
    """Tell the product of two things that are known to be fractions."""
    return in_lowest_terms(one[0] * other[0], one[1] * other[1])


def summed(some):
    """Tell the sum of a list that is known to hold fractions alone."""
    sums = some or [NOUGHT]
    # Sums of about as many fractions each are added to one another: one sum
    # that took them in one by one would be a long number at nearly every step.
    while len(sums) > 1:
        half = len(sums) // 2
        sums = [added(one, other) for one, other in zip(sums[:half], sums[half:])] + sums[2 * half:]
    return sums[0]


def compared(one, other):
    """Tell the order of two things that are known to be fractions."""
    here = one[0] * other[1]
    there = other[0] * one[1]
    if here < there:
        return -1
    if here > there:
        return 1
    return 0


def outermost(some, side):
    """Tell of a list of fractions the least one, for the side -1, or the greatest one, for the side 1."""
    found = some[0]
    for one in some:
        if compared(one, found) == side:
            found = one
    return found
