"""The word of a paper, by the things that papers ahead of it in order of time tell of."""

from truechain.papers import DAY_AT, FIRST_AT, KIND_AT, ROWS_AT, elders_in, names_in

STANDS = "stands"
BEGINNINGS = ("thing", "made")
NEEDING_WHOLE_THINGS = ("told", "held", "made", "read")


def word_of(things, paper):
    """Tell the word of a paper; the things are what the papers ahead of it made of them."""
    if paper[KIND_AT] in BEGINNINGS and paper[FIRST_AT] in things:
        return "taken"
    if is_lacking(things, paper):
        return "lacking"
    named = [things[name] for name in used_names(paper)]
    if any(is_over(thing, paper) for thing in named):
        return "ended"
    if paper[KIND_AT] in NEEDING_WHOLE_THINGS and any(thing.is_harmed(paper[DAY_AT]) for thing in named):
        return "harmed"
    if not is_fit(things, paper):
        return "unfit"
    return STANDS


def used_names(paper):
    """Tell the names of the things that a paper needs: all that it names but the one that it begins."""
    if paper[KIND_AT] in BEGINNINGS:
        return elders_in(paper)
    return names_in(paper)


def is_lacking(things, paper):
    """Tell whether a thing that a paper needs is not there yet, or began too late to be an elder."""
    for name in used_names(paper):
        if name not in things:
            return True
        if paper[KIND_AT] == "made" and things[name].begin == paper[DAY_AT]:
            return True
    return False


def is_over(thing, paper):
    """Tell whether a thing has ended, for a paper that needs it."""
    if thing.end is None:
        return False
    # Several boxes may be made on one day of pieces of the same elder.
    return paper[KIND_AT] != "made" or thing.end < paper[DAY_AT]


def is_fit(things, paper):
    """Tell whether the things that a paper needs, all there and whole, have the marks and levels that it wants."""
    kind = paper[KIND_AT]
    if kind == "told":
        return is_fit_told(things[paper[FIRST_AT]], paper)
    if kind == "held":
        return is_fit_held(things[paper[FIRST_AT]], things[paper[FIRST_AT + 1]], paper)
    if kind == "made":
        return is_fit_made(things, paper)
    if kind == "read":
        return things[paper[FIRST_AT]].shape.fits(paper[-1])
    return True


def is_fit_told(thing, paper):
    """Tell whether a thing is a standard with the marks that a told paper tells of."""
    return thing.level == 0 and all(thing.has_mark(row[0]) for row in paper[ROWS_AT])


def is_fit_held(thing, finer, paper):
    """Tell whether a held paper holds marks of a thing against spots that fit a finer one."""
    if finer.level >= thing.level:
        return False
    return all([thing.has_mark(mark) and finer.shape.fits(spot) for mark, spot, _, _ in paper[ROWS_AT]])


def is_fit_made(things, paper):
    """Tell whether a made paper takes pieces that boxes of one level still have."""
    level = things[elders_in(paper)[0]].level
    for _, name, piece in paper[ROWS_AT]:
        elder = things[name]
        if elder.kind != "box" or elder.level != level:
            return False
        if not elder.has_mark(piece) or piece in elder.gone:
            return False
    return True
