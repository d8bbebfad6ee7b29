"""Questions about whatever is handed in: is it of this kind? Each is answered with True or False, never refused."""

LAST_DAY = 10 ** 6
LAST_KEY = 10 ** 9
LAST_POINT = 1000
LONGEST_NAME = 8
LONGEST_SPOT = 6


def is_whole(thing):
    """Tell whether it is a whole number: an int that is no truth."""
    return isinstance(thing, int) and not isinstance(thing, bool)


def is_day(thing):
    """Tell whether it is a day: a whole number from 0 to 10 ** 6."""
    return is_whole(thing) and 0 <= thing <= LAST_DAY


def is_key(thing):
    """Tell whether it is a key: a whole number from 1 to 10 ** 9."""
    return is_whole(thing) and 1 <= thing <= LAST_KEY


def is_point(thing):
    """Tell whether it is a point: a whole number from 0 to 1000."""
    return is_whole(thing) and 0 <= thing <= LAST_POINT


def is_name(thing):
    """Tell whether it is a name: a text of one to eight small letters a to z."""
    if not isinstance(thing, str) or not 1 <= len(thing) <= LONGEST_NAME:
        return False
    return all("a" <= sign <= "z" for sign in thing)


def is_spot(thing):
    """Tell whether it is a spot: a list of one to six points, none less than the one ahead."""
    if not isinstance(thing, list) or not 1 <= len(thing) <= LONGEST_SPOT:
        return False
    if not all(is_point(point) for point in thing):
        return False
    return all(thing[at - 1] <= thing[at] for at in range(1, len(thing)))
