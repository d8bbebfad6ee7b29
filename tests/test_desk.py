"""Promises 3, 4, 37 and 38: a desk's rows and their answers, word by word."""

from random import Random

from truechain.answers import answer, lasts
from truechain.book import Book
from truechain.chains import chain
from truechain.desk import Desk
from truechain.doubts import all_windows, doubted
from truechain.errors import (
    ChainError, NoDeed, NoOff, NoPaper, NoReading, NoRow, NoSpot, NoText, NoThing, TooMany, Twice,
)
from truechain.house import House
from truechain.texts import read_paper, show_fraction, show_paper
from tests.chance import LAST, fitting_papers, spot_of, some_papers
from tests.helper import Case, Stubborn, junk

ST = "put 101 0 thing st box 0 0 1,2,5"
GA = "put 103 0 thing ga scale 2 0 0,5,10"


def desk_of(*rows):
    """A desk to which these rows were said."""
    desk = Desk()
    for row in rows:
        desk.say(row)
    return desk


def state_of(desk):
    """What a desk tells of its papers and readings."""
    keys = desk.say("keys")
    found = [keys, desk.say("doubt -")]
    for key in keys.split(", ") if keys != "none" else []:
        found.append(desk.say("word " + key))
        try:
            found.append(desk.say("answer " + key))
        except NoReading:
            pass
    return found


class Deeds(Case):

    def test_put(self):
        desk = Desk()
        for row, said in (
                (ST, "101 - stands ; none"),
                ("put 10 8 read st 1", "10 - stands ; 10 - > bare"),
                ("put 1 2 told st 90 : 1 5 6", "1 - stands ; 10 bare > within 5 6"),
                ("put 2 2 told st 90 : 1 5 6", "2 - stands ; none"),
                ("put 3 2 told st 90 : 1 13/2 8", "3 - stands ; 10 within 5 6 > apart 13/2 6"),
                ("put 4 9 off st", "4 - stands ; 10 apart 13/2 6 > doubtful"),
                ("put 5 9 off zz", "5 - lacking ; none"),
                ("put 11 8 read st 3", "11 - unfit ; none"),
                ("put 102 1 thing st scale 0 0 1,2", "102 - taken ; none"),
                ("put 6 7 harmed st", "6 - stands, 10 stands harmed, 11 unfit harmed ; 10 doubtful > -"),
                ("put 12 9 made ca 0 : 1 st 1", "12 - harmed ; none"),
                ("put 7 8 mended st", "7 - stands, 10 harmed stands, 11 harmed unfit, 12 harmed stands ; 10 - > bare"),
                ("put 8 10 read st 1", "8 - ended ; none")):
            self.assertEqual(desk.say(row), said, row)

    def test_strike_and_back(self):
        desk = desk_of(ST, "put 10 8 read st 1", "put 2 8 read st 5", "put 30 8 read st 3")
        for row, said in (
                ("strike 101", "2 stands lacking, 10 stands lacking, 30 unfit lacking, 101 stands - ; 2 bare > -, 10 bare > -"),
                ("back", "2 lacking stands, 10 lacking stands, 30 lacking unfit, 101 - stands ; 2 - > bare, 10 - > bare"),
                ("strike 30", "30 unfit - ; none"), ("strike 2", "2 stands - ; 2 bare > -"),
                ("back", "2 - stands ; 2 - > bare"), ("back", "30 - unfit ; none"), ("back", "30 unfit - ; none"),
                ("back", "2 stands - ; 2 bare > -"), ("back", "10 stands - ; 10 bare > -"), ("back", "101 stands - ; none")):
            self.assertEqual(desk.say(row), said, row)
        self.refused(NoDeed, desk.say, "back")
        self.assertEqual(desk.say("keys"), "none")

    def test_told_again_without_a_change(self):
        # What is struck and put again in the same words changes two times just as much.
        desk = desk_of(ST, "put 10 8 read st 1")
        self.assertEqual(desk.say("strike 10"), "10 stands - ; 10 bare > -")
        self.assertEqual(desk.say("put 10 8 read st 1"), "10 - stands ; 10 - > bare")


class Asked(Case):

    def desk(self):
        """A desk with a reading of each answer."""
        return desk_of(
            ST, GA, "put 102 0 thing ru scale 0 1/10 0,10", "put 1 2 told st 90 : 1 5 6 : 2 0 1", "put 3 2 told ru 90 : 0 -1/3 1 : 10 8 9",
            "put 4 4 held ga ru 90 : 0 1,3 1/2 0 : 5 10 0 1/7", "put 5 2 told st 90 : 2 3/2 2", "put 20 6 read ga 1", "put 9 6 read st 5",
            "put 21 6 read st 1", "put 100 6 read st 2", "put 22 6 read ru 0", "put 7 9 off st", "put 30 6 read zz 1")

    def test_keys(self):
        self.assertEqual(Desk().say("keys"), "none")
        self.assertEqual(desk_of(ST).say("keys"), "101")
        self.assertEqual(self.desk().say("keys"), "1, 3, 4, 5, 7, 9, 20, 21, 22, 30, 100, 101, 102, 103")

    def test_word(self):
        desk = desk_of(ST, "put 2 8 read st 3", "put 3 8 read zz 1", "put 4 1 thing st scale 0 0 1,2", "put 5 4 harmed st",
                       "put 6 5 told st 0 : 1 0 0", "put 7 6 mended st", "put 8 7 made ca 0 : 1 st 1", "put 9 8 off st")
        for key, word in ((101, "stands"), (2, "ended"), (3, "lacking"), (4, "taken"), (5, "stands"), (6, "harmed"), (8, "stands"),
                          (9, "ended")):
            self.assertEqual(desk.say(f"word {key}"), word)
        desk.say("strike 8")
        self.assertEqual(desk.say("word 2"), "unfit")

    def test_answer(self):
        desk = self.desk()
        # ga 1 is four parts ga 0, by ru 1 and ru 3, and one part ga 5, by ru 10.
        for key, said in ((9, "bare"), (21, "doubtful"), (100, "doubtful"), (22, "within -11/15 7/5"), (20, "within 1966/525 1181/175")):
            self.assertEqual(desk.say(f"answer {key}"), said)
        desk.say("strike 7")
        self.assertEqual(desk.say("answer 21"), "within 5 6")
        self.assertEqual(desk.say("answer 100"), "apart 3/2 1")

    def test_chain(self):
        desk = self.desk()
        rows = "4 ga 0 6 4/5, 4 ga 5 6 1/5, 3 ru 0 4 32/25, 3 ru 10 4 13/25"
        for by in ("low", "high", "near"):
            self.assertEqual(desk.say(f"chain 20 {by}"), rows)
            for key in (9, 21, 100):
                self.assertEqual(desk.say(f"chain {key} {by}"), "none")
            self.assertEqual(desk.say(f"chain 22 {by}"), "3 ru 0 6 1")
        desk.say("strike 7")
        self.assertEqual(desk.say("chain 100 low"), "5 st 2 6 1")
        self.assertEqual(desk.say("chain 100 high"), "1 st 2 6 1")
        self.assertEqual(desk.say("chain 100 near"), "5 st 2 6 1")

    def test_doubt(self):
        desk = self.desk()
        for row in ("doubt 7", "doubt -"):
            self.assertEqual(desk.say(row), "9 bare, 20 sure, 21 doubtful, 22 sure, 100 doubtful")
        desk.say("put 8 5 off ru")
        self.assertEqual(desk.say("doubt -"), "9 bare, 20 doubtful, 21 doubtful, 22 bare, 100 doubtful")
        self.assertEqual(desk.say("doubt 8"), "9 bare, 20 doubtful, 21 sure, 22 bare, 100 sure")
        self.assertEqual(desk.say("doubt 7"), "9 bare, 20 sure, 21 doubtful, 22 bare, 100 doubtful")
        self.assertEqual(Desk().say("doubt -"), "none")
        self.assertEqual(desk_of(ST, "put 8 5 off st").say("doubt 8"), "none")
        self.assertEqual(desk_of(ST, "put 8 5 read st 1").say("doubt -"), "8 bare")

    def test_lasts(self):
        desk = self.desk()
        for row, said in (("lasts ru 0 2", "92"), ("lasts ru 0,3,3,10 2", "92"), ("lasts ru 0 1", "none"), ("lasts ga 1 4", "94"),
                          ("lasts ga 7 4", "none"), ("lasts st 1 2", "2"), ("lasts st 1 3", "none"), ("lasts st 1,2 2", "2"),
                          ("lasts st 5 1000000", "none")):
            self.assertEqual(desk.say(row), said, row)
        desk.say("put 40 5 told ru 1000000 : 0 0 0")
        self.assertEqual(desk.say("lasts ru 0 5"), "1000000")

    def test_ends_of_any_size(self):
        desk = desk_of("put 101 0 thing st box 0 999999999999/1000 1", "put 1 0 told st 1000000 : 1 -1000000000000 1000000000000",
                       "put 10 1000000 read st 1")
        self.assertEqual(desk.say("answer 10"), "within -1000999999999000 1000999999999000")
        desk.say("put 102 0 thing bl box 1 1/997 1,2")
        desk.say("put 2 500000 held bl st 1000000 : 1 1 1/991 1/983 : 2 1 1/977 1/971")
        said = desk.say("put 11 1000000 read bl 1,2").split(" ")
        self.assertEqual(said[:4] + said[5:7], ["11", "-", "stands", ";", "-", ">"])
        book = Book()
        for paper in ("101 0 thing st box 0 999999999999/1000 1", "1 0 told st 1000000 : 1 -1000000000000 1000000000000",
                      "102 0 thing bl box 1 1/997 1,2", "2 500000 held bl st 1000000 : 1 1 1/991 1/983 : 2 1 1/977 1/971",
                      "11 1000000 read bl 1,2"):
            book.put(read_paper(paper))
        _, low, high = answer(book, 11)
        self.assertEqual(desk.say("answer 11"), f"within {low[0]}/{low[1]} {high[0]}/{high[1]}")
        self.assertGreater(min(low[1], high[1]), 1000)


class Refusals(Case):

    def unchanged(self, refusal, rows, desk=None, **fields):
        """Check that each row is refused so, and that nothing is changed by it."""
        desk = desk or desk_of(ST, GA, "put 10 8 read st 1", "put 11 9 off st")
        ahead = state_of(desk)
        for row in rows:
            with self.subTest(row if type(row) is str else None):
                self.refused(refusal, desk.say, row, **fields)
        self.assertEqual(state_of(desk), ahead)

    def test_no_text(self):
        good = "12 8 read st 1"
        self.unchanged(NoText, [
            "put ", "put  ", "put  " + good, "put " + good + " ", "put 12  8 read st 1", "put 12 8 read st", "put 12 8 read st 1 1",
            "put 12 8 read st 2,1", "put 12 8 read st 1,", "put 012 8 read st 1", "put 12 08 read st 1", "put 0 8 read st 1",
            "put 12 1000001 read st 1", "put 1000000001 8 read st 1", "put 12 8 reads st 1", "put 12 8 read ST 1", "put put " + good,
            "put 12 8 read st 1001", "put keys", "put 12", "put " + good + "\n", "put \n" + good, "put 12 8 told st 9 : 1 2 1",
            "put 12 8 told st 9 : 1 0 2/4", "put 12 8 told st 9", "put 12 8 told st 9 :", "put 12 8 thing st box 0 0 2,2",
            "put " + "1" * 3900 + " 8 read st 1", "put 12 8 told st 9 : 1 0 " + "7" * 3900, "put -", "put None",
            # No paper's text, although its key is kept.
            "put 10 8 read st 2,1"])

    def test_no_row(self):
        self.unchanged(NoRow, [
            "", " ", "put", "PUT " + ST[4:], "Put 1", " " + ST, "\tput 1", "puts 1", "put\n", "\n", "keys ", " keys", "keys  ", "keys 1",
            "Keys", "key", "keys\n", "back ", " back", "back 1", "Back", "backs", "none", "-", "strike", "strike ", "strike  10",
            "strike 10 ", " strike 10", "strike 10 11", "strike 010", "strike 0", "strike -1", "strike +10", "strike 1000000001",
            "strike x", "strike -", "strike 10\n", "strike 1_0", "strike 10/1", "strike 1,0", "strike " + "1" * 3910, "strikes 10",
            "strike 10.0", "word", "word ", "word  10", "word 10 ", "word 010", "word 0", "word -", "word x", "word 10 10", "word ten",
            "answer", "answer ", "answer 010", "answer 0", "answer -", "answer 10 low", "answer 1000000001", "chain", "chain 10", "chain low",
            "chain 10 ", "chain 10 lows", "chain 10 LOW", "chain 10 far", "chain low 10", "chain 10 low ", "chain  10 low",
            "chain 10  low", "chain 10 low high", "chain 010 low", "chain - low", "chain 0 low", "chain 10 -", "doubt", "doubt ", "doubt  -",
            "doubt - ", "doubt --", "doubt 0", "doubt 011", "doubt none", "doubt x", "doubt 11 11", "doubt 1000000001", "lasts", "lasts st",
            "lasts st 1", "lasts st 1 ", "lasts st 1 08", "lasts st 01 8", "lasts st 1 1000001", "lasts st 1 -1", "lasts st 1 x",
            "lasts st 2,1 8", "lasts st 1,,2 8", "lasts st , 8", "lasts st 1, 8", "lasts st ,1 8", "lasts st 1001 8", "lasts st x 8",
            "lasts ST 1 8", "lasts ninesigns 1 8", "lasts s1 1 8", "lasts  st 1 8", "lasts st  1 8", "lasts st 1  8", "lasts st 1 8 ",
            "lasts st 1 8 9", "lasts st 1,1,1,1,1,1,1 8", "lasts - 1 8", "lasts st - 8", "lasts st 1 -", "lasts 1 st 8", "last st 1 8",
            "what", "10 8 read st 1", "quarrel 10", "plan", "~", "copy", "!", "strike 10 ; keys", "word 10, 11"])

    def test_no_row_of_what_is_no_text(self):
        self.unchanged(NoRow, [thing for thing in junk() if not (type(thing) is str and thing.startswith("put "))])
        self.unchanged(NoRow, [b"keys", b"put 12 8 read st 1", ["keys"], ("keys",), {"keys": 1}, None, 10, Stubborn(), Desk, Desk()])

    def test_as_the_house_and_the_stages_refuse(self):
        self.unchanged(Twice, ["put 10 8 read st 1", "put 10 8 read zz 9"], key=10)
        self.unchanged(NoPaper, ["strike 12", "word 12"], key=12)
        self.unchanged(NoReading, ["answer 12", "chain 12 low", "chain 12 near"], key=12)
        self.unchanged(NoReading, ["answer 11", "chain 11 low"], key=11)
        self.unchanged(NoOff, ["doubt 10"], key=10)
        self.unchanged(NoOff, ["doubt 12"], key=12)
        self.unchanged(NoThing, ["lasts zz 999 8", "lasts zz 1 1000000"], name="zz")
        self.unchanged(NoSpot, ["lasts st 3 8", "lasts st 1,1 8", "lasts ga 11 0"])
        self.unchanged(NoDeed, ["back"], Desk())
        desk = desk_of(ST, "put 12 8 read st 3", "put 13 8 off zz", "put 14 9 made ca 0 : 1 st 1")
        self.unchanged(NoReading, ["answer 12", "chain 12 high"], desk, key=12)
        self.unchanged(NoOff, ["doubt 13"], desk, key=13)
        self.unchanged(NoThing, ["lasts st 1 9"], desk, name="st")
        self.unchanged(NoThing, ["lasts ca 1 8"], desk, name="ca")
        desk = desk_of(ST, *[f"put {key} 8 read st 1" for key in range(1, 60)])
        self.unchanged(TooMany, ["put 60 8 read st 1"], desk, most=60)
        self.unchanged(Twice, ["put 59 8 read st 1"], desk, key=59)

    def test_a_refused_row_is_no_deed(self):
        desk = desk_of(ST, GA)
        for row in ("put 101 8 read st 1", "put x", "strike 7", "strike x", "word 7", "put 7"):
            with self.assertRaises(ChainError):
                desk.say(row)
        self.assertEqual(desk.say("back"), "103 stands - ; none")

    def test_two_desks(self):
        one, other = Desk(), Desk()
        one.say(ST)
        self.assertEqual((one.say("keys"), other.say("keys")), ("101", "none"))
        self.refused(NoDeed, other.say, "back")
        other.say(GA)
        other.say("put 101 0 thing st scale 0 0 1,2")
        self.assertEqual((one.say("keys"), other.say("keys")), ("101", "101, 103"))
        self.assertEqual(one.say("back"), "101 stands - ; none")
        self.assertEqual(other.say("keys"), "101, 103")

    def test_asking_is_no_deed_and_changes_nothing(self):
        desk = desk_of(ST, "put 1 2 told st 90 : 1 5 6", "put 10 8 read st 1", "put 11 9 off st")
        rows = ("keys", "word 1", "answer 10", "chain 10 low", "doubt -", "doubt 11", "lasts st 1 2")
        first = [desk.say(row) for row in rows]
        self.assertEqual([desk.say(row) for row in rows], first)
        self.assertEqual({type(said) for said in first}, {str})
        self.assertEqual(desk.say("back"), "11 stands - ; 10 doubtful > within 5 6")


class AsTheStagesTell(Case):

    def test_desks_by_chance(self):
        """Each answer is what a house and a book tell, written here word by word once more."""
        seen = {}
        for seed in range(40):
            chance = Random(seed)
            papers = fitting_papers(chance, 40) if seed % 3 else some_papers(chance, 45)
            papers.extend((2000 + at, 9 + at, "off", name) for at, name in enumerate(("ga", "bl", "ru", "st")))
            desk, house = Desk(), House()
            for paper in papers:
                self.assertEqual(desk.say("put " + show_paper(paper)), self.changes(house.put(paper)))
                if chance.random() < 0.2:
                    key = chance.choice(house.kept())
                    self.assertEqual(desk.say(f"strike {key}"), self.changes(house.strike(key)))
                if chance.random() < 0.3:
                    self.assertEqual(desk.say("back"), self.changes(house.back()))
            self.compare(chance, desk, house, seen)
        self.assertGreater(min(seen.get(what, 0) for what in ("bare", "doubtful", "within", "chain", "sure", "lasts")), 3, seen)

    def compare(self, chance, desk, house, seen):
        book = house.book()
        self.assertEqual(desk.say("keys"), self.listed(map(str, book.kept())))
        for key in book.kept():
            self.assertEqual(desk.say(f"word {key}"), book.word(key))
        for key, found in house.answers():
            self.assertEqual(desk.say(f"answer {key}"), self.answer(found))
            seen[found[0]] = seen.get(found[0], 0) + 1
            _, day, _, name, spot = book.paper(key)
            for by in ("low", "high", "near"):
                rows = chain(book, name, spot, day, all_windows(book), by)
                said = [f"{row[0]} {row[1]} {row[2]} {row[3]} {self.fraction(row[4])}" for row in rows or []]
                self.assertEqual(desk.say(f"chain {key} {by}"), self.listed(said))
                seen["chain"] = seen.get("chain", 0) + (len(said) > 1)
        for key in [None] + book.offs():
            rows = doubted(book, key)
            self.assertEqual(desk.say(f"doubt {key or '-'}"), self.listed(f"{row[0]} {row[1]}" for row in rows))
            for row in rows:
                seen[row[1]] = seen.get(row[1], 0) + 1
        for name in ("st", "ru", "bl", "ga", "fi"):
            day, spot = chance.randrange(LAST), spot_of(chance, [0, 5])
            row = f"lasts {name} {','.join(map(str, spot))} {day}"
            try:
                last = lasts(book, name, spot, day)
            except ChainError as why:
                self.refused(type(why), desk.say, row, **vars(why))
                continue
            self.assertEqual(desk.say(row), "none" if last is None else str(last))
            seen["lasts"] = seen.get("lasts", 0) + (last is not None)

    def listed(self, said):
        return ", ".join(said) or "none"

    def fraction(self, worth):
        self.assertEqual(show_fraction(worth), f"{worth[0]}/{worth[1]}" if worth[1] > 1 else f"{worth[0]}")
        return show_fraction(worth)

    def answer(self, found):
        return "-" if found is None else " ".join([found[0], *map(self.fraction, found[1:])])

    def changes(self, told):
        return self.listed(f"{key} {ahead or '-'} {behind or '-'}" for key, ahead, behind in told[0]) + " ; " + self.listed(
            f"{key} {self.answer(ahead)} > {self.answer(behind)}" for key, ahead, behind in told[1])
