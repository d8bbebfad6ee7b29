"""Worths by chance, as nobody knows them, and papers that tell the truth of them."""

from fractions import Fraction

DAYS = 16
SHAPES = {
    "st": ("box", 0, [1, 2, 5]),
    "ru": ("scale", 0, [0, 4, 10]),
    "bl": ("box", 1, [1, 2, 3]),
    "ga": ("scale", 2, [0, 5, 10]),
    "fi": ("scale", 3, [0, 6]),
}


class World:
    """Things with a worth for each mark on each day, and the papers that were written of them."""

    def __init__(self, chance):
        self.chance = chance
        self.papers = []
        self.shapes = {name: (sort, level, list(marks)) for name, (sort, level, marks) in SHAPES.items()}
        self.rates = {}
        self.begins = {}
        self.ends = {}
        self.harmed = set()
        self.worths = {}
        for name in SHAPES:
            self.begin(name, 0)
            for mark in self.shapes[name][2]:
                self.worths[name, mark, 0] = Fraction(mark) + Fraction(chance.randrange(-5, 6), 7)
            self.write(0, "thing", name, *self.shapes[name][:2], self.rates[name], list(self.shapes[name][2]))
        for day in range(DAYS):
            self.live(day)

    def begin(self, name, day):
        rate = Fraction(self.chance.randrange(3), 10)
        self.rates[name] = (rate.numerator, rate.denominator)
        self.begins[name] = day

    def write(self, day, kind, *rest):
        self.papers.append((len(self.papers) + 1, day, kind, *rest))

    def live(self, day):
        """One day: worths go astray, breaks come, a box is made, things are held."""
        there = [name for name in self.shapes if self.is_there(name, day)]
        for name in there:
            self.go_astray(name, day)
        if self.chance.random() < 0.25:
            self.break_one(self.chance.choice(there), day)
        if self.chance.random() < 0.15:
            self.make_box(there, day)
        for _ in range(3):
            whole = [name for name in self.shapes if self.is_there(name, day) and name not in self.harmed]
            if whole and len(self.papers) < 58:
                self.hold(self.chance.choice(whole), whole, day)

    def is_there(self, name, day):
        return self.begins[name] <= day and name not in self.ends

    def go_astray(self, name, day):
        """From the day ahead each mark goes by no more than the rate."""
        for mark in self.shapes[name][2]:
            if (name, mark, day) not in self.worths:
                step = Fraction(*self.rates[name]) * Fraction(self.chance.choice((-4, -4, -1, 0, 2, 4, 4)), 4)
                self.worths[name, mark, day] = self.worths[name, mark, day - 1] + step

    def break_one(self, name, day):
        """A break, on whose day the worths may go anywhere."""
        kind = self.chance.choice(("off", "harmed", "mended", "mended"))
        for mark in self.shapes[name][2]:
            self.worths[name, mark, day] += self.chance.randrange(-20, 21)
        if kind == "harmed":
            self.harmed.add(name)
        elif kind == "mended":
            self.harmed.discard(name)
        self.write(day, kind, name)

    def make_box(self, there, day):
        name = "made" + "abcdefgh"[len(self.ends) % 8]
        boxes = [one for one in there if self.shapes[one][0] == "box" and self.begins[one] < day and one not in self.harmed]
        boxes = [one for one in boxes if self.shapes[one][1] == self.shapes[boxes[0]][1]]
        if name in self.shapes or not boxes:
            return
        pieces = [(box, piece) for box in boxes for piece in self.shapes[box][2]]
        pieces = self.chance.sample(pieces, self.chance.randrange(1, min(len(pieces), 5) + 1))
        marks = sorted(self.chance.sample(range(1, 9), len(pieces)))
        self.shapes[name] = ("box", self.shapes[boxes[0]][1], marks)
        self.begin(name, day)
        for mark, (elder, piece) in zip(marks, pieces):
            self.worths[name, mark, day] = self.worths[elder, piece, day]
            self.ends[elder] = day
        self.write(day, "made", name, self.rates[name], [(mark, *piece) for mark, piece in zip(marks, pieces)])

    def hold(self, name, whole, day):
        sort, level, marks = self.shapes[name]
        chosen = sorted(self.chance.sample(marks, self.chance.randrange(1, len(marks) + 1)))
        term = self.chance.choice((0, 2, 4, 9, 30))
        if level == 0:
            rows = [(mark, *self.near(self.worths[name, mark, day])) for mark in chosen]
            self.write(day, "told", name, term, rows)
            return
        finer = [one for one in whole if self.shapes[one][1] < level]
        if not finer:
            return
        finer = self.chance.choice(finer)
        rows = []
        for mark in chosen:
            spot = self.spot(finer)
            low, high = self.near(self.worths[name, mark, day] - self.worth(finer, spot, day))
            middle = (Fraction(*low) + Fraction(*high)) / 2
            slack = middle - Fraction(*low)
            rows.append((mark, spot, (middle.numerator, middle.denominator), (slack.numerator, slack.denominator)))
        self.write(day, "held", name, finer, term, rows)

    def near(self, worth):
        """Ends between which a worth lies, as small fractions, now and then with the worth at one of them."""
        low = Fraction(worth.numerator * 10 // worth.denominator - self.chance.choice((0, 1, 5)), 10)
        high = Fraction(-(-worth.numerator * 10 // worth.denominator) + self.chance.choice((0, 1, 5)), 10)
        return ((low.numerator, low.denominator), (high.numerator, high.denominator))

    def spot(self, name):
        sort, _, marks = self.shapes[name]
        if sort == "box":
            return sorted(self.chance.sample(marks, self.chance.randrange(1, len(marks) + 1)))
        return sorted(self.chance.randrange(marks[0], marks[-1] + 1) for _ in range(self.chance.choice((1, 1, 2, 3))))

    def worth(self, name, spot, day):
        """The worth of a thing at a spot, straight between neighbouring marks."""
        return sum((self.worth_at(name, point, day) for point in spot), Fraction(0))

    def worth_at(self, name, point, day):
        marks = self.shapes[name][2]
        if point in marks:
            return self.worths[name, point, day]
        low = max(mark for mark in marks if mark < point)
        high = min(mark for mark in marks if mark > point)
        one, other = self.worths[name, low, day], self.worths[name, high, day]
        return one + (other - one) * Fraction(point - low, high - low)


class DoubtfulWorld(World):
    """A world in which things go wrong unseen, their worths go anywhere, and they are found off some day."""

    def __init__(self, chance):
        self.wrong = set()
        self.read = []
        super().__init__(chance)
        for name in sorted({name for name, _ in self.wrong}):
            self.write(DAYS, "off", name)

    def live(self, day):
        for name in list(self.shapes):
            if day and self.is_there(name, day) and self.chance.random() < 0.04:
                marks = self.shapes[name][2]
                self.wrong.update((name, mark) for mark in self.chance.sample(marks, self.chance.randrange(1, len(marks) + 1)))
        super().live(day)
        whole = [name for name in self.shapes if self.is_there(name, day) and name not in self.harmed]
        if whole and len(self.papers) < 52:
            name = self.chance.choice(whole)
            spot = self.spot(name)
            self.write(day, "read", name, spot)
            self.read.append((len(self.papers), self.worth(name, spot, day)))

    def go_astray(self, name, day):
        super().go_astray(name, day)
        for mark in self.shapes[name][2]:
            if (name, mark) in self.wrong:
                self.worths[name, mark, day] += self.chance.randrange(-9, 10)

    def break_one(self, name, day):
        super().break_one(name, day)
        if self.papers[-1][2] == "off":
            self.wrong = {place for place in self.wrong if place[0] != name}

    def make_box(self, there, day):
        papers, shapes, ends = len(self.papers), dict(self.shapes), dict(self.ends)
        wrong = set(self.wrong)
        super().make_box(there, day)
        if len(self.papers) == papers:
            return
        name, rows = self.papers[-1][3], self.papers[-1][-1]
        pieces = {(elder, piece): (name, mark) for mark, elder, piece in rows}
        elders = {elder for _, elder, _ in rows}
        if any(place not in pieces for place in wrong if place[0] in elders):
            # A piece that is left in an ended box can't be found off any more: there shall be no such one.
            self.papers.pop()
            self.shapes, self.ends = shapes, ends
            return
        self.wrong = {pieces.get(place, place) for place in wrong}

    def hold(self, name, whole, day):
        """Nobody holds a mark that went wrong without finding it off: but others are held against it."""
        right = [mark for mark in self.shapes[name][2] if (name, mark) not in self.wrong]
        if not right or len(self.papers) >= 50:
            return
        sort, level, marks = self.shapes[name]
        self.shapes[name] = (sort, level, right)
        super().hold(name, whole, day)
        self.shapes[name] = (sort, level, marks)
