"""Papers: tuples of a key, a day, their kind's word and what their kind wants."""

from truechain.fractions import compared, is_small
from truechain.kinds import is_day, is_key, is_name, is_point, is_spot, is_whole
from truechain.marks import are_marks, do_rise, is_sort

# What a paper has behind its kind's word, part by part. In order of time papers of one day go by the order here.
PARTS = {
    "thing": ("name", "sort", "level", "rate", "marks"),
    "off": ("name",),
    "harmed": ("name",),
    "mended": ("name",),
    "made": ("name", "rate", "rows"),
    "told": ("name", "term", "rows"),
    "held": ("name", "finer", "term", "rows"),
    "read": ("name", "spot"),
}
# An offer is no paper, but has rows as a held paper has them that is not written yet.
ROW_PARTS = {
    "made": ("mark", "elder", "piece"),
    "told": ("mark", "low", "high"),
    "held": ("mark", "spot", "difference", "slack"),
    "offer": ("mark", "spot", "slack"),
}
KEY_AT = 0
DAY_AT = 1
KIND_AT = 2
FIRST_AT = 3
SORT_AT = 4
# Of the kinds that have these.
TERM_AT = -2
ROWS_AT = -1
MOST_ROWS = 8
LAST_LEVEL = 5


def fault_in(thing):
    """Tell the place of the first part in which something is no paper, or None where it is one."""
    if not isinstance(thing, tuple) or len(thing) <= KIND_AT or not is_kind(thing[KIND_AT]):
        return KIND_AT
    if len(thing) != FIRST_AT + len(PARTS[thing[KIND_AT]]):
        return KIND_AT
    for at, part in enumerate(parts_of(thing)):
        if not is_as_told(thing, part, thing[at]):
            return at
    return None


def is_ahead(one, other):
    """Tell of two papers whether the one comes ahead of the other in order of time."""
    return time_of(one) < time_of(other)


def names_in(paper):
    """Tell the names that a paper names, sorted, each once."""
    names = [worth for part, worth in zip(parts_of(paper), paper) if part in ("name", "finer")]
    return sorted(set(names + elders_in(paper)))


def copy_of(paper):
    """Tell a paper that is the same, and shares no list with it."""
    return tuple([copied_part(worth) for worth in paper])


def is_kind(thing):
    """Tell whether it is the word of a kind of papers."""
    return isinstance(thing, str) and thing in PARTS


def parts_of(paper):
    """Tell what the parts of a paper are, in order, the three that each has included."""
    return ("key", "day", "kind") + PARTS[paper[KIND_AT]]


def time_of(paper):
    """Tell by what a paper is put in order of time."""
    return (paper[DAY_AT], list(PARTS).index(paper[KIND_AT]), paper[KEY_AT])


def elders_in(paper):
    """Tell the elders that a paper names, row by row."""
    if paper[KIND_AT] != "made":
        return []
    return [row[1] for row in paper[ROWS_AT]]


def copied_part(worth):
    """Tell a part of a paper with new lists in the place of its own ones."""
    if isinstance(worth, list):
        return [copied_part(inner) for inner in worth]
    if isinstance(worth, tuple):
        return tuple([copied_part(inner) for inner in worth])
    return worth


def is_as_told(paper, part, worth):
    """Tell whether one part of a paper is as told, those ahead of it being so."""
    if part == "marks":
        return are_marks(worth, paper[SORT_AT])
    if part == "rows":
        return are_rows(worth, paper[KIND_AT]) and not does_clash(paper)
    return part == "kind" or is_worth_of(part, worth)


def is_worth_of(part, worth):
    """Tell of whatever is handed in whether a part of a paper or of a row that is called so may be it."""
    if part in ("name", "finer", "elder"):
        return is_name(worth)
    if part in ("day", "term"):
        return is_day(worth)
    if part in ("mark", "piece"):
        return is_point(worth)
    if part in ("low", "high", "difference"):
        return is_small(worth)
    if part in ("rate", "slack", "width"):
        return is_small(worth) and worth[0] >= 0
    if part == "key":
        return is_key(worth)
    if part == "sort":
        return is_sort(worth)
    if part == "level":
        return is_whole(worth) and 0 <= worth <= LAST_LEVEL
    return is_spot(worth)


def are_rows(thing, kind):
    """Tell of whatever is handed in whether it is a list of rows, as a paper of this kind or an offer wants them."""
    if not isinstance(thing, list) or not 1 <= len(thing) <= MOST_ROWS:
        return False
    return all(is_row(row, kind) for row in thing) and do_rise([row[0] for row in thing])


def is_row(thing, kind):
    """Tell of whatever is handed in whether it is a row of a paper of this kind or of an offer."""
    parts = ROW_PARTS[kind]
    if not isinstance(thing, tuple) or len(thing) != len(parts):
        return False
    if not all([is_worth_of(part, worth) for part, worth in zip(parts, thing)]):
        return False
    return kind != "told" or compared(thing[1], thing[2]) != 1


def does_clash(paper):
    """Tell whether a made paper takes a piece of its own box, or a piece twice; other papers never do."""
    if paper[KIND_AT] != "made":
        return False
    taken = [(elder, piece) for _, elder, piece in paper[ROWS_AT]]
    return paper[FIRST_AT] in elders_in(paper) or len(set(taken)) < len(taken)
