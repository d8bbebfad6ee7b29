"""Windows that are shut: tuples (name, mark, first, behind), through which no chain may go."""

from truechain.kinds import LAST_DAY, is_name, is_point, is_whole

MOST_WINDOWS = 1000


class Shutters:
    """Shut windows, by the marks that they hide."""

    def __init__(self, windows):
        self.windows = {}
        for name, mark, first, behind in windows:
            self.windows.setdefault((name, mark), []).append((first, behind))

    def hides(self, name, mark, day):
        """Tell whether a mark of a thing on a day lies in one of the windows."""
        return any(first <= day < behind for first, behind in self.windows.get((name, mark), []))


def are_windows(thing):
    """Tell of whatever is handed in whether it is a list of windows that is not too long."""
    if not isinstance(thing, list) or len(thing) > MOST_WINDOWS:
        return False
    return all(is_window(one) for one in thing)


def is_window(thing):
    """Tell of whatever is handed in whether it is a window, with days or without."""
    if not isinstance(thing, tuple) or len(thing) != 4:
        return False
    name, mark, first, behind = thing
    return is_name(name) and is_point(mark) and is_bound(first) and is_bound(behind)


def is_bound(thing):
    """Tell whether it is a day or the one behind the last day."""
    return is_whole(thing) and 0 <= thing <= LAST_DAY + 1
