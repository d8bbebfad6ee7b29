"""The refusals of the package, and the one check by which wrong arguments are refused.

No refusal shows in its words what it is made of: that may be anything, also a thing that can't be shown.
"""


class ChainError(ValueError):
    """What all refusals of the package stand under."""


class Wrong(ChainError):
    """The argument at this place, counted from 0, is not as told."""

    def __init__(self, at):
        self.at = at

    def __str__(self):
        return "an argument is not as told"


class NoSpot(ChainError):
    """A spot or a mark does not fit the thing."""

    def __str__(self):
        return "a spot or a mark does not fit"


class NoText(ChainError):
    """What was handed in is not the text of a paper."""

    def __str__(self):
        return "this is not the text of a paper"


class Twice(ChainError):
    """A paper of this key is kept already."""

    def __init__(self, key):
        self.key = key

    def __str__(self):
        return "a paper of this key is kept already"


class TooMany(ChainError):
    """There would be more than the most that there may be."""

    def __init__(self, most):
        self.most = most

    def __str__(self):
        return "there would be too many papers"


class NoPaper(ChainError):
    """No paper of this key is kept."""

    def __init__(self, key):
        self.key = key

    def __str__(self):
        return "no paper of this key is kept"


class NoThing(ChainError):
    """There is no thing of this name."""

    def __init__(self, name):
        self.name = name

    def __str__(self):
        return "there is no thing of this name"


class NoChain(ChainError):
    """The rows stop being a chain at this place, counted from 0."""

    def __init__(self, at):
        self.at = at

    def __str__(self):
        return "the rows are no chain"


class NoOff(ChainError):
    """No off paper of this key stands."""

    def __init__(self, key):
        self.key = key

    def __str__(self):
        return "no off paper of this key stands"


class NoReading(ChainError):
    """No read paper of this key stands."""

    def __init__(self, key):
        self.key = key

    def __str__(self):
        return "no read paper of this key stands"


class NoOffer(ChainError):
    """The offer at this place, counted from 0, can't be held."""

    def __init__(self, at):
        self.at = at

    def __str__(self):
        return "an offer can't be held"


class NoDeed(ChainError):
    """There is no deed that could be taken back."""

    def __str__(self):
        return "there is no deed to take back"


class NoRow(ChainError):
    """What was handed in is no row of the desk."""

    def __str__(self):
        return "this is no row of the desk"


def require(*as_told):
    """Refuse the first argument that is not as told; of each one, by its place, it is handed in whether it is."""
    for at, good in enumerate(as_told):
        if not good:
            raise Wrong(at)
