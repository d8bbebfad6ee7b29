"""Papers by chance, about few things, so that many of them stand and many of them just fail to."""

from math import gcd

SHAPES = {
    "st": ("box", 0, [1, 2, 5]),
    "ru": ("scale", 0, [0, 4, 10]),
    "bl": ("box", 1, [1, 2, 3]),
    "ga": ("scale", 1, [0, 5, 10]),
    "fi": ("scale", 2, [0, 6]),
}
MADE = ("ma", "mb", "mc")
LAST = 14


def small(chance, least=-12):
    """A small fraction."""
    top, bottom = chance.randrange(least, 13), chance.choice((1, 1, 2, 3, 10))
    common = gcd(top, bottom)
    return (top // common, bottom // common)


def spot_of(chance, marks):
    """A spot that may fit some marks."""
    if chance.random() < 0.6:
        return sorted(chance.sample(marks, chance.choice((1, 1, min(2, len(marks))))))
    return sorted(chance.randrange(11) for _ in range(chance.choice((1, 1, 2, 3))))


def row_marks(chance, marks):
    """Marks for rows, now and then one that is no mark."""
    found = chance.sample(marks, chance.randrange(1, len(marks) + 1))
    if chance.random() < 0.08:
        found = list({*found[1:], chance.randrange(11)})
    return sorted(found)


def some_papers(chance, many):
    """So many papers of unlike keys."""
    shapes = dict(SHAPES)
    keys = chance.sample(range(1, 1000), many)
    papers = []
    for at, key in enumerate(keys):
        kind = "thing" if at < 5 else chance.choice(
            ("told", "told", "told", "held", "held", "held", "held", "made", "read", "off", "harmed", "mended", "thing"))
        papers.append(one_paper(chance, key, kind, at, shapes))
    chance.shuffle(papers)
    return papers


def one_paper(chance, key, kind, at, shapes):
    """One paper; shapes tells of the things so far, and gets the made ones."""
    name = chance.choice(list(shapes))
    sort, level, marks = shapes[name]
    day = chance.randrange(LAST + 1)
    if kind == "thing":
        if at < 5:
            name, day = list(SHAPES)[at], chance.choice((0, 0, 0, 1, 3))
            sort, level, marks = shapes[name]
        return (key, day, kind, name, sort, level, small(chance, 0), list(marks))
    if kind == "told":
        name = name if chance.random() < 0.1 else chance.choice([one for one in shapes if shapes[one][1] == 0])
        rows = []
        for mark in row_marks(chance, shapes[name][2]):
            low, high = sorted((small(chance), small(chance)), key=lambda worth: worth[0] * 30 // worth[1])
            rows.append((mark, low, high))
        return (key, day, kind, name, chance.choice((0, 3, 5, 30)), rows)
    if kind == "held":
        if chance.random() < 0.9:
            name = chance.choice([one for one in shapes if shapes[one][1] > 0])
        finer = chance.choice([one for one in shapes if shapes[one][1] < shapes[name][1]] or list(shapes))
        rows = [(mark, spot_of(chance, shapes[finer][2]), small(chance), small(chance, 0))
                for mark in row_marks(chance, shapes[name][2])]
        return (key, day, kind, name, finer, chance.choice((0, 3, 5, 30)), rows)
    if kind == "made":
        return made_paper(chance, key, shapes)
    if kind == "read":
        return (key, day, kind, name, spot_of(chance, marks))
    return (key, day, kind, name)


def made_paper(chance, key, shapes):
    """A made paper."""
    name = chance.choice(MADE)
    boxes = [one for one in shapes if one != name and (shapes[one][0] == "box" or chance.random() < 0.05)]
    elders = chance.sample(boxes, min(len(boxes), chance.choice((1, 1, 2))))
    if chance.random() < 0.9:
        elders = [one for one in elders if shapes[one][1] == shapes[elders[0]][1]]
    pieces = [(elder, piece) for elder in elders for piece in shapes[elder][2]]
    if chance.random() < 0.05 and (elders[0], 7) not in pieces:
        pieces.append((elders[0], 7))
    pieces = chance.sample(pieces, chance.randrange(1, min(len(pieces), 4) + 1))
    marks = sorted(chance.sample(range(1, 9), len(pieces)))
    shapes.setdefault(name, ("box", shapes[elders[0]][1], marks))
    return (key, chance.randrange(4, LAST + 1), "made", name, small(chance, 0),
            [(mark, *piece) for mark, piece in zip(marks, pieces)])


def fitting_spot(chance, shape):
    """A spot that fits a thing."""
    sort, _, marks = shape
    if sort == "box":
        return sorted(chance.sample(marks, chance.randrange(1, len(marks) + 1)))
    return sorted(chance.randrange(marks[0], marks[-1] + 1) for _ in range(chance.choice((1, 1, 1, 2, 3))))


def fitting_papers(chance, many):
    """So many papers of unlike keys, nearly all of which stand: of few breaks and long terms, so of many chains."""
    shapes = dict(SHAPES)
    keys = chance.sample(range(1, 1000), many)
    papers = []
    for name, (sort, level, marks) in SHAPES.items():
        papers.append((keys.pop(), 0, "thing", name, sort, level, small(chance, 0), list(marks)))
    while keys:
        kind = chance.choice(("told",) * 9 + ("held",) * 16 + ("read",) * 6 + ("off",) * 2 + ("made", "mended"))
        day = chance.choice((0, 1, 2, 3, 3, 4, 5, 6, 8, 10, LAST))
        name = chance.choice(list(shapes))
        term = chance.choice((2, 4, 8, 30, 30))
        if kind == "told":
            name = chance.choice([one for one in shapes if shapes[one][1] == 0])
            rows = []
            for mark in sorted(chance.sample(shapes[name][2], chance.randrange(1, len(shapes[name][2]) + 1))):
                low, more = chance.randrange(8 * mark - 9, 8 * mark + 3), chance.randrange(12)
                rows.append((mark, eighths(low), eighths(low + more)))
            papers.append((keys.pop(), day, kind, name, term, rows))
        elif kind == "held":
            name = chance.choice([one for one in shapes if shapes[one][1] > 0])
            finer = chance.choice([one for one in shapes if shapes[one][1] < shapes[name][1]])
            rows = [(mark, fitting_spot(chance, shapes[finer]), small(chance), eighths(chance.randrange(12)))
                    for mark in sorted(chance.sample(shapes[name][2], chance.randrange(1, len(shapes[name][2]) + 1)))]
            papers.append((keys.pop(), day, kind, name, finer, term, rows))
        elif kind == "made":
            papers.append(made_paper(chance, keys.pop(), shapes))
        elif kind == "read":
            papers.append((keys.pop(), day, kind, name, fitting_spot(chance, shapes[name])))
        else:
            papers.append((keys.pop(), day, kind, name))
    chance.shuffle(papers)
    return papers


def layered_papers(many):
    """Papers of six scales, each held against the one before so many times: of chains far too many to go through."""
    names, marks = "abcdef", [0, 3, 10, 17, 31, 50, 77, 100]
    papers = [(0, "thing", name, "scale", level, (1, 997), marks) for level, name in enumerate(names)]
    for at in range(many):
        papers.append((at, "told", "a", 10 ** 6, [(mark, (mark - at, 1), (mark + at + 1, 1)) for mark in marks]))
        for level in range(1, 6):
            papers.append((3 * level + at, "held", names[level], names[level - 1], 10 ** 6, [
                (mark, [1, 20, 40, 60, 80, 99][at % 3:][:1 + mark % 3], (at + 1, 991), (at + 1, 983)) for mark in marks]))
    return [(key, *paper) for key, paper in enumerate(papers, 1)]


def eighths(many):
    """So many eighths as a fraction."""
    common = gcd(many, 8)
    return (many // common, 8 // common)


def some_windows(chance, model):
    """Some windows of things that a model knows."""
    shut = []
    for _ in range(chance.choice((0, 0, 1, 3))):
        name, first = chance.choice(list(model.things)), chance.randrange(LAST + 2)
        mark = chance.choice(model.things[name].marks)
        shut.append((name, mark, first, first + chance.choice((0, 1, 3, 20))))
    return shut


def some_offers(chance, model, day):
    """Some offers that can be held on a day."""
    whole = [name for name, thing in model.things.items() if thing.has_on(day) and not thing.harmed_on(day)]
    offers = []
    for key in range(2000, 2000 + chance.choice((0, 1, 2, 3, 4))):
        pairs = [(name, finer) for name in whole for finer in whole
                 if model.things[finer].level < model.things[name].level]
        if pairs:
            name, finer = chance.choice(pairs)
            marks, below = model.things[name].marks, model.things[finer]
            offers.append((key if chance.random() < 0.5 else 3000 - key, name, finer, [
                (mark, fitting_spot(chance, (below.sort, below.level, below.marks)), eighths(chance.randrange(6)))
                for mark in sorted(chance.sample(marks, chance.randrange(1, len(marks) + 1)))]))
    return offers


def some_trial(chance, teller):
    """Papers, a day, offers and wishes, which all of the offers may meet just or just not."""
    while True:
        model = teller(fitting_papers(chance, chance.randrange(20, 38)))
        day = chance.randrange(1, LAST + 2)
        offers = some_offers(chance, model, day)
        keys = [paper[0] for paper in model.papers]
        if any(one[0] in keys for one in offers):
            continue
        full, wishes = model.with_offers(day, offers), []
        # Asked is mostly what is offered: other things often have no chain, or one that nothing brings nearer.
        names = [one[1] for one in offers] or [name for name in model.things if model.things[name].has_on(day)]
        for _ in range(chance.choice((0, 1, 1, 2, 2, 3))):
            name = chance.choice(names)
            thing = model.things[name]
            spot = fitting_spot(chance, (thing.sort, thing.level, thing.marks))
            if full.many(full.wanted(name, spot, day), [], {}) > 40:
                continue
            found = full.near_with(day, [], name, spot)
            if found is None and chance.random() < 0.85:
                continue
            wishes.append((name, spot, some_width(chance, found)))
        return model, day, offers, wishes


def some_width(chance, found):
    """A width near to what was found, as a wish may want it."""
    top, bottom = (chance.randrange(40), 1) if found is None else found[0]
    if bottom <= 1000 and chance.random() < 0.6:
        return (top, bottom)
    return eighths(max(0, 8 * top // bottom + chance.choice((-1, 0, 1, 2, 40))))
