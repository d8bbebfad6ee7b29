"""Promises 5 to 10, over the whole program: what is true, what is in doubt, what comes late, and what a paper changes."""

from fractions import Fraction
from random import Random

from truechain.answers import answer, lasts
from truechain.book import Book
from truechain.chains import chain, nearest, walk
from truechain.doubts import all_windows, doubted, windows
from truechain.ends import ends
from truechain.errors import ChainError, NoThing
from truechain.house import House
from truechain.links import links
from truechain.offers import met, near_with
from truechain.papers import names_in
from truechain.plans import needed, plan
from truechain.quarrels import quarrel, quarrels
from tests.chance import LAST, fitting_papers, some_papers, some_trial
from tests.helper import Case, words_of
from tests.teller import Teller
from tests.world import DAYS, DoubtfulWorld


def of(told):
    """A told fraction as one of Python's own."""
    return Fraction(*told)


def rich_papers(chance, many):
    """Papers with some off papers in their end, as often as not."""
    papers = fitting_papers(chance, many) if chance.random() < 0.8 else some_papers(chance, many)
    if chance.random() < 0.5:
        papers.extend((2000 + at, 9 + at, "off", name) for at, name in enumerate(("ga", "bl", "ru")))
    return papers


def answers_of(book):
    return {key: answer(book, key) for key in book.readings()}


def tell_all(book):
    """What a book tells of everything that can be asked in short time."""
    told = [book.kept(), words_of(book), [book.paper(key) for key in book.kept()], book.readings(), book.offs()]
    told.append([(key, windows(book, key), doubted(book, key)) for key in book.offs()])
    told.extend([all_windows(book), doubted(book, None), answers_of(book)])
    for name in sorted({name for key in book.kept() for name in names_in(book.paper(key))}):
        try:
            found = book.thing(name)
        except NoThing:
            continue
        told.append((name, found, book.breaks(name), book.own(name), [book.line(name, mark) for mark in found[3]]))
        for day in range(0, LAST + 3, 2):
            told.append((book.there(name, day), book.harmed(name, day)))
            if book.there(name, day):
                asked, shut = (book, name, found[3][:2], day), all_windows(book)
                told.append([links(book, name, mark, day) for mark in found[3]])
                told.append([ends(*asked, []), ends(*asked, shut), nearest(*asked, []), lasts(*asked)])
                told.append([chain(*asked, shut, by) for by in ("low", "high", "near")])
                told.append([quarrel(*asked, []), quarrels(*asked, [])])
    return told


class Truth(Case):

    def test_true_worths_lie_within_whatever_things_went_wrong(self):
        seen = {}
        for seed in range(300):
            chance = Random(seed)
            world, book = DoubtfulWorld(chance), Book()
            papers = list(world.papers)
            chance.shuffle(papers)
            for one in papers:
                book.put(one)
            self.assertEqual(set(words_of(book).values()), {"stands"})
            shut = all_windows(book)
            for key, worth in world.read:
                found = answer(book, key)
                if found[0] in ("within", "apart"):
                    # Promise 5: and so none is told apart, as there are worths that are true to the papers.
                    self.assertLessEqual(of(found[1]), worth)
                    self.assertLessEqual(worth, of(found[2]))
                    self.assertEqual(found[0], "within")
                    _, day, _, name, spot = book.paper(key)
                    low, high = ends(book, name, spot, day, [])
                    seen["other"] = seen.get("other", 0) + (not of(low) <= worth <= of(high))
                if found[0] == "doubtful":
                    _, day, _, name, spot = book.paper(key)
                    low, high = ends(book, name, spot, day, [])
                    seen["false"] = seen.get("false", 0) + (not of(low) <= worth <= of(high))
                seen[found[0]] = seen.get(found[0], 0) + 1
            for name in world.shapes:
                for day in range(world.begins[name], world.ends.get(name, DAYS)):
                    spot = world.spot(name)
                    found = ends(book, name, spot, day, shut)
                    if found is not None:
                        self.assertLessEqual(of(found[0]), world.worth(name, spot, day))
                        self.assertLessEqual(world.worth(name, spot, day), of(found[1]))
                        seen["ends"] = seen.get("ends", 0) + 1
                        seen["down a line"] = seen.get("down a line", 0) + (len(book.line(name, world.shapes[name][2][0])) > 1)
        self.assertGreater(
            min(seen.get(what, 0) for what in ("bare", "doubtful", "within", "ends", "false", "other", "down a line")), 20, seen)


class Ends(Case):

    def test_the_chains_that_are_told_have_the_ends_that_are_told(self):
        seen = 0
        for seed in range(40):
            chance = Random(seed)
            book = Book()
            for one in rich_papers(chance, 45):
                book.put(one)
            shut = all_windows(book)
            for key, found in answers_of(book).items():
                if found[0] in ("within", "apart"):
                    _, day, _, name, spot = book.paper(key)
                    low, high = [chain(book, name, spot, day, shut, by) for by in ("low", "high")]
                    self.assertEqual(walk(book, name, spot, day, low)[0], found[1])
                    self.assertEqual(walk(book, name, spot, day, high)[1], found[2])
                    self.assertEqual(quarrel(book, name, spot, day, shut), None if found[0] == "within" else (low, high))
                    seen += 1
        self.assertGreater(seen, 20)


class Time(Case):

    def test_books_into_which_the_same_was_put_in_unlike_orders(self):
        for seed in range(25):
            chance = Random(seed)
            papers = rich_papers(chance, chance.randrange(10, 45))
            one, other = Book(), Book()
            for paper in papers:
                one.put(paper)
            other_papers = [paper for paper in rich_papers(chance, 12) if paper[0] not in {paper[0] for paper in papers}]
            for paper in chance.sample(papers, len(papers)):
                if other_papers and chance.random() < 0.3:
                    other.put(other_papers[-1])
                    answers_of(other)
                    other.strike(other_papers.pop()[0])
                other.put(paper)
                if chance.random() < 0.2:
                    other.strike(paper[0])
                    words_of(other)
                    other.put(paper)
            self.assertEqual(tell_all(one), tell_all(other))
            self.assertEqual(tell_all(one.copied()), tell_all(one))

    def test_houses_into_which_the_same_was_put_in_unlike_orders(self):
        for seed in range(25):
            chance = Random(seed)
            papers = rich_papers(chance, chance.randrange(10, 40))
            one, other = House(), House()
            for paper in papers:
                one.put(paper)
            for paper in chance.sample(papers, len(papers)):
                other.put(paper)
                if chance.random() < 0.3:
                    other.strike(chance.choice(other.kept()))
                    other.back()
                if chance.random() < 0.3:
                    other.back()
                    other.put(paper)
            self.assertEqual(one.answers(), other.answers())
            self.assertEqual((one.kept(), [one.word(key) for key in one.kept()]),
                             (other.kept(), [other.word(key) for key in other.kept()]))
            self.assertEqual(tell_all(one.book()), tell_all(other.book()))

    def test_plans_of_books_into_which_the_same_was_put_in_unlike_orders(self):
        for seed in range(60):
            chance = Random(seed)
            model, day, offers, wishes = some_trial(chance, Teller)
            told = []
            for _ in range(2):
                book = Book()
                for paper in chance.sample(model.papers, len(model.papers)):
                    book.put(paper)
                told.append([plan(book, day, offers, wishes), needed(book, day, offers, wishes), met(book, day, offers, wishes),
                             [near_with(book, day, offers, name, spot) for name, spot, _ in wishes]])
            self.assertEqual(told[0], told[1])


class Changes(Case):

    def bound_up(self, papers, names):
        """All names that are bound up with some."""
        found = set(names)
        while True:
            more = {name for paper in papers if found & set(names_in(paper)) for name in names_in(paper)}
            if more <= found:
                return found
            found |= more

    def two_worlds(self, chance):
        """Papers of two kinds of things that are not bound up with one another, and few that bind them."""
        papers = []
        for at in range(2):
            for paper in rich_papers(chance, 22):
                key, day, kind, *rest = paper
                papers.append((3000 * at + key, day, kind, *[self.renamed(part, at) for part in rest]))
        papers.append((9001, 4, "held", "gaa", "stb", 9, [(0, [1], (0, 1), (1, 1))]))
        return chance.sample(papers, len(papers))

    def renamed(self, part, at):
        if isinstance(part, str) and part not in ("scale", "box"):
            return part + "ab"[at]
        if isinstance(part, list):
            return [tuple(self.renamed(inner, at) for inner in row) if type(row) is tuple else row for row in part]
        return part

    def test_what_is_not_bound_up_stays_and_all_that_changes_is_told(self):
        seen = {}
        for seed in range(25):
            chance = Random(seed)
            house, papers = House(), self.two_worlds(chance)
            for paper in papers:
                self.one_deed(house, lambda paper=paper: house.put(paper), paper, seen)
                if chance.random() < 0.3:
                    paper = house.book().paper(chance.choice(house.kept()))
                    self.one_deed(house, lambda paper=paper: house.strike(paper[0]), paper, seen)
                    self.one_deed(house, house.back, paper, seen)
        self.assertGreater(min(seen.get(what, 0) for what in ("bound", "loose", "changed")), 50, seen)

    def one_deed(self, house, deed, paper, seen):
        ahead, words, told = house.book(), words_of(house.book()), dict(house.answers())
        doubts = {row[0]: row for row in doubted(ahead, None)}
        changed = deed()
        behind = house.book()
        self.assertEqual(changed[0], [(key, words.get(key), words_of(behind).get(key)) for key in sorted({*words, *words_of(behind)})
                                      if words.get(key) != words_of(behind).get(key)])
        now = dict(house.answers())
        self.assertEqual(now, answers_of(behind))
        self.assertEqual(changed[1], [(key, told.get(key), now.get(key)) for key in sorted({*told, *now})
                                      if told.get(key) != now.get(key)])
        both = {key: (ahead if key in ahead.kept() else behind).paper(key) for key in ahead.kept() + behind.kept()}
        bound = self.bound_up(both.values(), names_in(paper))
        for key in told:
            if both[key][3] not in bound:
                self.assertEqual(now[key], told[key])
                self.assertEqual([row for row in doubted(behind, None) if row[0] == key], [doubts[key]])
                seen["loose"] = seen.get("loose", 0) + 1
            else:
                seen["bound"] = seen.get("bound", 0) + 1
        seen["changed"] = seen.get("changed", 0) + len(changed[1])

    def test_what_takes_nothing_away_and_what_brings_nothing_nearer(self):
        seen = {}
        for seed in range(60):
            chance = Random(seed)
            book = Book()
            papers = rich_papers(chance, 50)
            for paper in papers:
                ahead, stands = answers_of(book), book.would(paper) == "stands"
                book.put(paper)
                behind = answers_of(book)
                for key in ahead:
                    if stands and paper[2] in ("told", "held"):
                        self.takes_nothing_away(ahead[key], behind[key])
                        what = paper[2]
                    elif stands and paper[2] == "off":
                        self.brings_nothing_nearer(ahead[key], behind[key])
                        what = "off"
                    elif not stands or paper[2] == "read":
                        self.assertEqual(ahead[key], behind[key])
                        continue
                    else:
                        continue
                    seen[what] = seen.get(what, 0) + (ahead[key] != behind[key])
        self.assertGreater(min(seen.get(what, 0) for what in ("told", "held", "off")), 10, seen)

    def takes_nothing_away(self, ahead, behind):
        if ahead[0] == "bare":
            return
        self.assertNotEqual(behind[0], "bare")
        if ahead[0] != "doubtful":
            self.assertIn(behind[0], ("within", "apart"))
            self.assertGreaterEqual(of(behind[1]), of(ahead[1]))
            self.assertLessEqual(of(behind[2]), of(ahead[2]))

    def brings_nothing_nearer(self, ahead, behind):
        if ahead[0] in ("within", "apart") and behind[0] in ("within", "apart"):
            self.assertLessEqual(of(behind[1]), of(ahead[1]))
            self.assertGreaterEqual(of(behind[2]), of(ahead[2]))
        order = ("bare", "doubtful", "within", "apart")
        if behind[0] in ("bare", "doubtful"):
            self.assertLessEqual(order.index(behind[0]), order.index(ahead[0]))
        else:
            self.assertIn(ahead[0], ("within", "apart"))


class Refused(Case):

    def test_what_is_refused_changes_nothing(self):
        chance = Random(7)
        book = Book()
        for paper in rich_papers(chance, 45):
            book.put(paper)
        ahead = tell_all(book)
        for ask in (lambda: book.put(book.paper(book.kept()[0])), lambda: book.strike(999999), lambda: book.put(None),
                    lambda: ends(book, "zz", [1], 1, []), lambda: chain(book, "ga", [999], 1, [], "low"),
                    lambda: answer(book, 999999), lambda: windows(book, 999999), lambda: plan(book, 1, [None], []),
                    lambda: walk(book, "ru", [0], 5, [None])):
            self.assertRaises(ChainError, ask)
        self.assertEqual(tell_all(book), ahead)
