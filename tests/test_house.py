"""Promises 3, 4, 9, 10 and 36: a house, what changes by each deed, and deeds taken back."""

import copy
from random import Random

from truechain.answers import answer
from truechain.book import Book
from truechain.errors import NoDeed, NoPaper, NoReading, TooMany, Twice, Wrong
from truechain.house import House
from truechain.texts import read_paper
from tests.chance import fitting_papers, some_papers
from tests.helper import Case, Stubborn, junk, lists_in, own_each_time, places_refused
from tests.teller import Teller

THINGS = ("101 0 thing st box 0 0 1,2,5", "103 0 thing ga scale 2 0 0,5,10")


def house_of(*texts):
    """A house into which the papers with these texts were put, one by one."""
    house = House()
    for text in texts:
        house.put(read_paper(text))
    return house


def state_of(house):
    """All that a house tells of its papers and readings."""
    return ({key: house.word(key) for key in house.kept()}, house.answers())


class Deeds(Case):

    def test_empty_at_first(self):
        house = House()
        self.assertEqual((house.kept(), house.answers(), house.book().kept()), ([], [], []))
        self.refused(NoDeed, house.back)

    def test_put(self):
        house = House()
        found = house.put(read_paper(THINGS[0]))
        self.assertEqual(found, ([(101, None, "stands")], []))
        self.assertEqual((type(found), type(found[0]), type(found[1]), type(found[0][0])), (tuple, list, list, tuple))
        self.assertEqual(house.put(read_paper("10 8 read st 1")), ([(10, None, "stands")], [(10, None, ("bare",))]))
        self.assertEqual(house.put(read_paper("1 2 told st 90 : 1 5 6")),
                         ([(1, None, "stands")], [(10, ("bare",), ("within", (5, 1), (6, 1)))]))
        self.assertEqual(house.put(read_paper("2 2 told st 90 : 1 5 6")), ([(2, None, "stands")], []))
        self.assertEqual(house.put(read_paper("3 2 told st 90 : 1 7 8")),
                         ([(3, None, "stands")], [(10, ("within", (5, 1), (6, 1)), ("apart", (7, 1), (6, 1)))]))
        self.assertEqual(house.put(read_paper("4 9 off st")),
                         ([(4, None, "stands")], [(10, ("apart", (7, 1), (6, 1)), ("doubtful",))]))
        self.assertEqual(house.put(read_paper("5 9 off zz")), ([(5, None, "lacking")], []))
        self.assertEqual(house.kept(), [1, 2, 3, 4, 5, 10, 101])

    def test_a_paper_put_late_that_changes_words_and_answers_of_others(self):
        house = house_of("20 4 read ru 0", "11 4 read st 1", "9 3 told st 9 : 1 0 1", "30 2 off st")
        self.assertEqual(state_of(house), ({9: "lacking", 11: "lacking", 20: "lacking", 30: "lacking"}, []))
        self.assertEqual(house.put(read_paper(THINGS[0])), (
            [(9, "lacking", "stands"), (11, "lacking", "stands"), (30, "lacking", "stands"), (101, None, "stands")],
            [(11, None, ("within", (0, 1), (1, 1)))]))
        self.assertEqual(house.put(read_paper("50 3 harmed st")), (
            [(9, "stands", "harmed"), (11, "stands", "harmed"), (50, None, "stands")],
            [(11, ("within", (0, 1), (1, 1)), None)]))
        self.assertEqual(house.put(read_paper("40 3 mended st")), (
            [(9, "harmed", "stands"), (11, "harmed", "stands"), (40, None, "stands")],
            [(11, None, ("within", (0, 1), (1, 1)))]))
        self.assertEqual(house.put(read_paper("60 3 mended st")), ([(60, None, "stands")], []))

    def test_by_rising_keys(self):
        house = house_of("300 5 read st 1", "20 5 read st 1", "1000 5 read st 1", "7 5 read st 2", "100 5 told st 0 : 1 0 1")
        found = house.put(read_paper(THINGS[0]))
        self.assertEqual([row[0] for row in found[0]], [7, 20, 100, 101, 300, 1000])
        self.assertEqual([row[0] for row in found[1]], [7, 20, 300, 1000])
        self.assertEqual([row[0] for row in house.answers()], [7, 20, 300, 1000])

    def test_strike(self):
        house = house_of(*THINGS, "1 2 told st 90 : 1 5 6", "10 8 read st 1", "11 8 read ga 1")
        self.assertEqual(house.strike(1), ([(1, "stands", None)], [(10, ("within", (5, 1), (6, 1)), ("bare",))]))
        self.assertEqual(house.strike(10), ([(10, "stands", None)], [(10, ("bare",), None)]))
        self.assertEqual(house.strike(103), ([(11, "stands", "lacking"), (103, "stands", None)], [(11, ("bare",), None)]))
        self.assertEqual(house.strike(11), ([(11, "lacking", None)], []))
        self.assertEqual(house.kept(), [101])

    def test_a_key_that_was_struck_may_be_put_again(self):
        house = house_of(*THINGS, "10 8 read st 1")
        house.strike(10)
        self.assertEqual(house.put(read_paper("10 8 read st 2")), ([(10, None, "stands")], [(10, None, ("bare",))]))
        self.assertEqual(house.book().paper(10), (10, 8, "read", "st", [2]))

    def test_told_is_what_the_book_tells(self):
        house = house_of(*THINGS, "1 2 told st 90 : 1 5 6", "10 8 read st 1", "12 8 read st 2", "11 8 read st 3")
        self.assertEqual(house.kept(), [1, 10, 11, 12, 101, 103])
        self.assertEqual([house.word(key) for key in (1, 10, 11)], ["stands", "stands", "unfit"])
        self.assertEqual(house.answer(10), ("within", (5, 1), (6, 1)))
        self.assertEqual(house.answers(), [(10, ("within", (5, 1), (6, 1))), (12, ("bare",))])
        self.refused(NoReading, house.answer, 11, key=11)
        self.refused(NoReading, house.answer, 1, key=1)
        self.refused(NoReading, house.answer, 13, key=13)
        self.refused(NoPaper, house.word, 13, key=13)


class Back(Case):

    def test_of_a_put_and_of_a_strike(self):
        house = house_of(*THINGS, "10 8 read st 1")
        self.assertEqual(house.put(read_paper("1 2 told st 90 : 1 5 6"))[0], [(1, None, "stands")])
        self.assertEqual(house.back(), ([(1, "stands", None)], [(10, ("within", (5, 1), (6, 1)), ("bare",))]))
        self.assertEqual(house.kept(), [10, 101, 103])
        self.assertEqual(house.strike(101), ([(10, "stands", "lacking"), (101, "stands", None)], [(10, ("bare",), None)]))
        self.assertEqual(house.back(), ([(10, "lacking", "stands"), (101, None, "stands")], [(10, None, ("bare",))]))
        self.assertEqual(house.book().paper(101), read_paper(THINGS[0]))

    def test_over_several_deeds_down_to_the_first(self):
        house, states = House(), []
        deeds = [("put", read_paper(THINGS[0])), ("put", read_paper("10 8 read st 1")), ("strike", 101),
                 ("put", read_paper("1 2 told st 90 : 1 5 6")), ("put", read_paper("101 1 thing st box 0 0 1,3")),
                 ("strike", 1), ("put", read_paper("1 9 off st")), ("strike", 10), ("strike", 101)]
        told = []
        for word, what in deeds:
            states.append(state_of(house))
            told.append(getattr(house, word)(what))
        for changes in reversed(told):
            found = house.back()
            self.assertEqual(found, tuple([(key, behind, ahead) for key, ahead, behind in rows] for rows in changes))
            self.assertEqual(state_of(house), states.pop())
        self.refused(NoDeed, house.back)
        self.assertEqual(house.kept(), [])

    def test_deeds_behind_a_back(self):
        house = house_of(*THINGS)
        house.put(read_paper("10 8 read st 1"))
        house.back()
        house.put(read_paper("11 8 read st 1"))
        house.strike(101)
        house.back()
        self.assertEqual(house.back()[0], [(11, "stands", None)])
        self.assertEqual(house.back()[0], [(103, "stands", None)])
        self.assertEqual(house.back()[0], [(101, "stands", None)])
        self.refused(NoDeed, house.back)

    def test_a_refused_deed_is_none(self):
        house = house_of(*THINGS)
        for _ in range(2):
            self.refused(Twice, house.put, read_paper("101 8 read st 1"), key=101)
            self.refused(NoPaper, house.strike, 7, key=7)
            self.refused(Wrong, house.put, None, at=0)
            self.refused(Wrong, house.strike, "101", at=0)
        self.assertEqual(house.back()[0], [(103, "stands", None)])
        self.refused(NoPaper, house.strike, 103, key=103)
        self.assertEqual(house.back()[0], [(101, "stands", None)])
        for _ in range(2):
            self.refused(NoDeed, house.back)
        house.put(read_paper(THINGS[0]))
        self.assertEqual(house.back()[0], [(101, "stands", None)])

    def test_up_to_sixty_and_back(self):
        house = house_of(*THINGS, *[f"{key} 8 read st 1" for key in range(1, 59)])
        ahead = state_of(house)
        self.refused(TooMany, house.put, read_paper("99 8 read st 1"), most=60)
        self.refused(Twice, house.put, read_paper("58 8 read st 1"), key=58)
        self.assertEqual(state_of(house), ahead)
        self.assertEqual(house.strike(101)[0][-1], (101, "stands", None))
        self.assertEqual(house.put(read_paper("99 8 read st 1")), ([(99, None, "lacking")], []))
        house.back()
        self.assertEqual(house.back()[0][-1], (101, None, "stands"))
        self.assertEqual(state_of(house), ahead)


class Refusals(Case):

    def test_wrong(self):
        house = house_of(*THINGS)
        ahead = state_of(house)
        bad = [thing for thing in junk() if thing.__class__ is not int]
        for call in (house.put, house.strike, house.word, house.answer):
            places_refused(self, call, [None], bad, Wrong)
            for key in (0, -1, 10 ** 9 + 1, True, Stubborn()):
                self.refused(Wrong, call, key, at=0)
        for paper in (list(read_paper("10 8 read st 1")), (10, 8, "read", "st", [2, 1]), (10, 8, "read", "st"), (10, 8)):
            self.refused(Wrong, house.put, paper, at=0)
        self.assertEqual(state_of(house), ahead)


class Own(Case):

    def test_what_was_handed_in_is_not_kept(self):
        house = House()
        paper = read_paper("101 0 thing st box 0 0 1,2,5")
        held = copy.deepcopy(paper)
        house.put(paper)
        self.assertEqual(paper, held)
        paper[-1].append(7)
        self.assertEqual(house.book().paper(101), held)
        house.strike(101)
        house.back()
        self.assertEqual(house.book().paper(101), held)

    def test_each_list_is_new(self):
        house = house_of(*THINGS, "10 8 read st 1")
        for ask in (house.kept, house.answers):
            own_each_time(self, ask)
        found = [house.put(read_paper("1 2 told st 90 : 1 5 6")), house.back(), house.strike(10), house.back()]
        lists = lists_in(tuple(found))
        self.assertEqual(len({id(one) for one in lists}), 8)
        ahead = state_of(house)
        for one in lists:
            one.append(("spoilt", None, None))
        self.assertEqual(state_of(house), ahead)
        self.assertEqual(house.put(read_paper("1 2 told st 90 : 1 5 6"))[0], [(1, None, "stands")])

    def test_a_copied_book_goes_on_by_itself(self):
        house = house_of(*THINGS, "10 8 read st 1")
        book, other = house.book(), house.book()
        self.assertIsInstance(book, Book)
        ahead = state_of(house)
        book.strike(101)
        book.put(read_paper("1 2 told st 90 : 1 5 6"))
        self.assertEqual(state_of(house), ahead)
        self.assertEqual(other.kept(), [10, 101, 103])
        house.strike(10)
        self.assertEqual((book.kept(), other.kept()), ([1, 10, 103], [10, 101, 103]))
        self.assertEqual(answer(other, 10), ("bare",))

    def test_two_houses_know_nothing_of_one_another(self):
        one, other = house_of(*THINGS), house_of(THINGS[0])
        one.put(read_paper("10 8 read st 1"))
        self.assertEqual((one.kept(), other.kept()), ([10, 101, 103], [101]))
        self.assertEqual(other.back()[0], [(101, "stands", None)])
        self.refused(NoDeed, other.back)
        self.assertEqual(one.back()[0], [(10, "stands", None)])


class AsTheTellerTells(Case):

    def test_deeds_by_chance(self):
        seen = {}
        for seed in range(40):
            chance = Random(seed)
            papers = fitting_papers(chance, 40) if seed % 3 else some_papers(chance, 45)
            house, kept, deeds, ahead = House(), {}, [], ({}, {})
            for _ in range(70):
                word = chance.choice(("put", "put", "put", "strike", "back"))
                if word == "put" and papers:
                    paper = papers.pop()
                    found = house.put(paper)
                    deeds.append(dict(kept))
                    kept = {**kept, paper[0]: paper}
                elif word == "strike" and kept:
                    key = chance.choice(list(kept))
                    papers.insert(chance.randrange(len(papers) + 1), kept[key])
                    found = house.strike(key)
                    deeds.append(dict(kept))
                    kept = {one: kept[one] for one in kept if one != key}
                elif word == "back" and deeds:
                    found = house.back()
                    was = kept
                    kept = deeds.pop()
                    papers = [paper for paper in papers if paper[0] not in kept]
                    papers.extend(was[one] for one in was if one not in kept)
                else:
                    continue
                behind = self.told(Teller(list(kept.values())))
                if behind is None:
                    break
                self.assertEqual(found, tuple(self.changed(one, other) for one, other in zip(ahead, behind)))
                self.assertEqual(state_of(house), (behind[0], sorted(behind[1].items())))
                self.assertEqual(house.kept(), sorted(kept))
                self.assertEqual({key: house.answer(key) for key in behind[1]}, behind[1])
                seen[word] = seen.get(word, 0) + 1
                seen["words"] = seen.get("words", 0) + (len(found[0]) > 1)
                seen["answers"] = seen.get("answers", 0) + (len(found[1]) > 0)
                ahead = behind
        self.assertGreater(min(seen.get(what, 0) for what in ("put", "strike", "back", "words", "answers")), 50, seen)

    def told(self, model):
        """The words and the answers, or None where there are too many chains to go through."""
        if any(model.many(model.reading(key), [], {}) > 60 for key in model.standing("read")):
            return None
        return model.words, dict(model.answers())

    def changed(self, ahead, behind):
        return [(key, ahead.get(key), behind.get(key)) for key in sorted({*ahead, *behind}) if ahead.get(key) != behind.get(key)]
