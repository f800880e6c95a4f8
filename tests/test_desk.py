import random
import unittest

from shelfcounts.books import book_at
from shelfcounts.clashes import clashes
from shelfcounts.desk import Desk
from shelfcounts.errors import (
    Closed, CountError, NoDay, NoEntry, NoFilling, NoGo, NoGood, NoName, NoPlace, NoRow, NoText, NoThen, TooMany)
from shelfcounts.fewest import fewest
from shelfcounts.hands import clearing_hands
from shelfcounts.heaps import shut_rows
from shelfcounts.keeper import Keeper
from shelfcounts.known import told
from shelfcounts.lots import cost_of, worth_behind
from shelfcounts.paperreader import read_told, read_tree
from shelfcounts.reader import read_house
from shelfcounts.settling import causes, least_lot
from shelfcounts.stocks import stock_at, stock_now
from shelfcounts.texts import house_text, row_text
from shelfcounts.tracks import place_of, track_at
from shelfcounts.trees import holds
from tests.helper import done_by, drawn_deeds, looks, small_house, spoilt_texts, whatever

START = "places left right\ngoods oil rice"
WORDS = {
    "enter": ["look z 1 oil left"], "back": ["zz"], "close": ["5", "up"], "house": [], "then": ["0"], "late": [], "clashing": [],
    "shut": ["oil"], "now": ["oil", "left"], "at": ["oil", "left", "7"], "book": ["oil", "left", "7"], "again": ["oil"], "lot": [],
    "tree": [], "causes": [], "hands": [], "worth": ["oil", "7"], "cost": ["zz"],
}
# What each row asks for that tells a number, a good or a place.
NUMBERED = {"close": 0, "then": 0, "at": 2, "book": 2, "worth": 1}
MOMENTS = ("at", "book", "worth")


def desk_told(rows, start=START):
    desk = Desk(start)
    for row in rows:
        desk.say(row)
    return desk


def listed(parts, parting):
    return parting.join(parts) if parts else "none"


def answer_to_asking(house, words):
    """The answer by the words of the document, of what the functions tell of the house."""
    word, *rest = words
    if word == "shut":
        return listed([" ".join([str(total), *names]) for names, total in shut_rows(house, *rest)], "\n")
    if word == "at":
        stock = stock_at(house, rest[0], rest[1], int(rest[2]))
        return "free" if stock is None else str(stock)
    if word == "book":
        return str(book_at(house, rest[0], rest[1], int(rest[2]))).replace("None", "none")
    if word == "again":
        taken = fewest(house, rest[0], [("now", track) for track in house[0]])[0]
        return listed([place_of(house, track, len(house[2])) for now, track in taken], " ")
    if word == "worth":
        at = [entry[2] > int(rest[1]) for entry in house[2] + (("look", "z", 10000),)].index(True)
        return str(worth_behind(house, rest[0], at))
    if word == "causes":
        return listed([" ".join(cause) for cause in causes(house)], "\n")
    if word == "hands":
        return listed(clearing_hands(house), " ")
    if word == "clashing":
        return listed([good for good in house[1] if clashes(house, good)], " ")
    return str(cost_of(house, rest[0]))


def deed_lines(went, came):
    lines = ["ok"]
    for word, rows in (("went", went), ("came", came)):
        lines += [" ".join([word, good, str(total), *names]) for good, names, total in rows]
    return "\n".join(lines)


class DeskTest(unittest.TestCase):
    def refused(self, kind, desk, row):
        with self.subTest(row=str(row)[:80], kind=kind.__name__):
            with self.assertRaises(kind) as caught:
                desk.say(row)
            if kind is NoText:
                self.assertEqual(caught.exception.line, 0)

    def test_made_of_the_text_of_a_house_without_entries(self):
        self.assertEqual(Desk(START).say("house"), START)
        for text, line in (("", 0), ("places left", 1), ("places left\n", 1), (START + "\n", 2), (START + "\nlook a 1 oil left", 2),
                           (START + "\nlook a 1 oil left\nlook b 1 oil left", 2), (START + "\nlook a 1 salt left", 2),
                           (START + "\nlook b 1 oil left\nlook a 1 oil left", 3), (START + "\nlook a 1 oil left\n", 3),
                           ("places right left\ngoods oil", 0), ("places left\ngoods a b c d", 1)):
            with self.subTest(text=text), self.assertRaises(NoText) as caught:
                Desk(text)
            self.assertEqual(caught.exception.line, line)
        for thing in whatever():
            with self.assertRaises(NoText) as caught:
                Desk(thing)
            self.assertEqual(caught.exception.line, 0)

    def test_a_new_desk(self):
        desk = Desk(START)
        for row, answer in (("house", START), ("then 0", START), ("late", "none"), ("clashing", "none"), ("shut oil", "none"),
                            ("at oil left 0", "free"), ("book oil left 9999", "none"), ("again rice", "left right"),
                            ("lot", "settles none"), ("tree", "none"), ("causes", "none"), ("hands", "none"), ("worth oil 9999", "0"),
                            ("now oil left", "free +now:left +begin:left")):
            self.assertEqual(desk.say(row), answer)

    def test_a_day_at_the_desk(self):
        desk = Desk(START)
        for row, answer in (
            ("enter count a 100 oil left 5 ann", "ok"),
            ("enter come b 110 oil left 3 10", "ok"),
            ("enter move c 120 oil left right 2", "ok"),
            ("now oil left", "known 6 left:1"),
            ("again oil", "right"),
            ("at oil left 115", "8"),
            ("at oil left 99", "5"),
            ("at oil right 115", "free"),
            ("book oil left 115", "8"),
            ("book oil left 120", "6"),
            ("book oil left 99", "none"),
            ("enter count d 130 oil left 7 bob", "ok\ncame oil 1 a b c d"),
            ("clashing", "oil"),
            ("shut oil", "1 a b c d"),
            ("lot", "settles a"),
            ("tree", "oil[a b c d]()"),
            ("hands", "ann bob"),
            ("causes", "back a\nback d"),
            ("close 1 up", "ok"),
            ("enter go e 125 oil right 1", "ok"),
            ("late", "e 125 200"),
            ("cost e", "10"),
            ("worth oil 199", "30"),
            ("worth oil 200", "20"),
            ("enter count f 210 oil left 6 ann", "ok\ncame oil -1 d f"),
            ("enter go g 205 oil left 1", "ok\nwent oil -1 d f\ncame oil 0 d f g"),
            ("shut oil", "1 a b c d\n0 d f g"),
            ("back g", "ok\nwent oil 0 d f g\ncame oil -1 d f"),
            ("back g", "ok"),
            ("shut oil", "1 a b c d\n-1 d f"),
            ("then 1", START + "\ncount a 100 oil left 5 ann"),
        ):
            with self.subTest(row=row):
                self.assertEqual(desk.say(row), answer)

    def test_places_are_told_where_their_tracks_are_now(self):
        desk = desk_told(["enter count a 1 oil left 5 ann", "enter swap b 2 left right"])
        self.assertEqual(desk.say("again oil"), "left")
        self.assertEqual(desk.say("now oil right"), "known 5 left:1")
        self.assertEqual(desk.say("at oil right 2"), "5")
        self.assertEqual(desk.say("at oil left 1"), "5")
        three = desk_told(["enter swap b 2 a c"], "places a b c\ngoods oil")
        self.assertEqual(three.say("again oil"), "c b a")

    def test_rows_that_are_none(self):
        desk = Desk(START)
        wrong = ["", " ", "  ", "enter", "Enter look a 1 oil left", "rows", "look a 1 oil left", " house", "house ", "houses", "\t",
                 "late\n", "\n", "house\nlate", "enter look a 1 oil left\n", "back a\n", "enter\nlook a 1 oil left"]
        for row in wrong + whatever() + [("back", "a"), ["house"], ("house",), {"house": 1}]:
            self.refused(NoRow, desk, row)
        for word, rest in WORDS.items():
            for words in ([*rest, "x"], [*rest, ""], ["", *rest], rest[:-1] if rest else ["x"], rest * 2 + ["x"]):
                if word != "enter" or words == []:
                    self.refused(NoRow, desk, " ".join([word, *words]))
            self.refused(NoRow, desk, word.upper() + " " + " ".join(rest))
        self.assertEqual(desk.say("house"), START)

    def test_numbers(self):
        desk = Desk(START)
        wrong = ["", "-", "-1", "-0", "00", "01", "+1", "x", "1.0", "9" * 61, "-" + "9" * 60, "9" * 5000, "0" * 60, "1\n"]
        for word, at in NUMBERED.items():
            for number in wrong + (["10000", "9" * 60] if word in MOMENTS else []):
                rest = list(WORDS[word])
                rest[at] = number
                self.refused(NoRow, desk, " ".join([word, *rest]))
        for word in MOMENTS:
            for number in ("0", "9999"):
                rest = list(WORDS[word])
                rest[-1] = number
                self.assertIsInstance(desk.say(" ".join([word, *rest])), str)
        self.refused(NoThen, desk, "then 1")
        self.refused(NoThen, desk, "then " + "9" * 60)
        self.refused(NoDay, desk, "close 100 up")
        self.refused(NoDay, desk, "close " + "9" * 60 + " up")

    def test_goods_and_places_that_are_not_there(self):
        desk = Desk(START)
        for good in ("salt", "left", "", "-", "OIL", "abcdefghi"):
            for word in ("shut", "again", "now", "at", "book", "worth"):
                rest = [good, *WORDS[word][1:]]
                self.refused(NoGood, desk, " ".join([word, *rest]))
                if word in MOMENTS:
                    self.refused(NoRow, desk, " ".join([word, *rest[:-1], "10000"]))
        for place in ("yard", "oil", "", "-", "Left"):
            for word in ("now", "at", "book"):
                rest = WORDS[word][2:]
                self.refused(NoPlace, desk, " ".join([word, "oil", place, *rest]))
                self.refused(NoGood, desk, " ".join([word, "salt", place, *rest]))
                if word in MOMENTS:
                    self.refused(NoRow, desk, " ".join([word, "oil", place, "x"]))
                    self.refused(NoRow, desk, " ".join([word, "salt", place, "-1"]))

    def test_entries(self):
        desk = Desk(START)
        for text in ("", " ", "look", "look a 1 oil", "look a 01 oil left", "look  a 1 oil left", " look a 1 oil left", "look a 1 oil left ",
                     "look a 10000 oil left", "some a 1 oil left", "enter look a 1 oil left", "look A 1 oil left"):
            self.refused(NoText, desk, "enter " + text)
        for text in ("look a 1 salt left", "look a 1 oil yard", "swap a 1 left yard"):
            self.refused(NoEntry, desk, "enter " + text)
        self.assertEqual(desk.say("enter some a 1 oil left -"), "ok")
        self.assertEqual(desk.say("house"), START + "\nsome a 1 oil left -")

    def test_as_the_stages_refuse(self):
        desk = desk_told(["enter count a 1 oil left 5 ann", "enter count b 2 oil left 6 ann", "close 0 refuse"])
        for kind, row in ((NoName, "back "), (NoName, "back A"), (NoName, "back abcdefghi"), (Closed, "back a"), (NoDay, "close 0 up"),
                          (NoDay, "close 5 down"), (NoDay, "close 5 "), (Closed, "enter look c 99 oil left"), (NoThen, "then 4"),
                          (NoFilling, "now oil left"), (NoFilling, "at oil right 7"), (NoName, "cost c"), (NoName, "cost "),
                          (NoGo, "cost a")):
            self.refused(kind, desk, row)
        self.assertEqual(desk.say("now rice left"), "free +now:left +begin:left")
        full = desk_told([row_text(("enter", entry)) for entry in looks(30)])
        self.refused(TooMany, full, "enter look zz 1 oil left")

    def test_what_is_refused_changes_nothing(self):
        desk = desk_told(["enter count a 100 oil left 5 ann", "enter count b 200 oil left 6 ann", "close 1 up", "enter go c 150 oil left 1"])
        asked = ("house", "then 3", "late", "clashing", "shut oil", "lot", "tree", "causes", "hands", "again oil", "worth oil 9999", "cost c")
        kept = [desk.say(row) for row in asked]
        rows = 0
        for row in ["enter look z 150 oil left", "enter look z 1 oil yard", "back a", "close 1 up", "close 5 x", "then 5", "now oil left",
                    "enter count b 200 oil left 7 ann\n", "back  b"] + whatever():
            self.assertRaises(CountError, desk.say, row)
        self.assertEqual([desk.say(row) for row in asked], kept)
        for row in spoilt_texts("close 5 up") + spoilt_texts("back c"):
            other = desk_told(["enter count a 100 oil left 5 ann"])
            try:
                other.say(row)
            except CountError:
                self.assertRaises(NoThen, other.say, "then 2")
                rows += 1
        self.assertGreater(rows, 200)
        self.refused(NoThen, desk, "then 5")

    def test_several_goods_and_lines(self):
        desk = desk_told([f"enter count {good[:1]}{place[:1]}{word} {at} {good} {place} {at} ann"
                          for good in ("oil", "rice") for place in ("left", "right") for at, word in enumerate("xy", 5)])
        self.assertEqual(desk.say("clashing"), "oil rice")
        self.assertEqual(desk.say("shut oil"), "1 olx oly\n1 orx ory")
        self.assertEqual(desk.say("lot"), "more")
        tree = read_tree(desk.say("tree"))
        self.assertTrue(holds(read_house(desk.say("house")), tree, 2))
        self.assertEqual(desk.say("enter swap m 6 left right"), "\n".join(
            ["ok"] + [f"went {good} 1 {good[:1]}{place}x {good[:1]}{place}y" for good in ("oil", "rice") for place in "lr"]
            + ["came oil 1 m olx ory", "came oil 1 m oly orx", "came rice 1 m rlx rry", "came rice 1 m rly rrx"]))

    def test_every_row_against_the_functions(self):
        seen = {}
        for seed in range(30):
            places, goods, deeds = drawn_deeds(seed, 25)
            keeper = Keeper(places, goods)
            desk = Desk(house_text((places, goods, ())))
            for deed in deeds:
                self.same_deed(desk, keeper, deed)
            house = keeper.house()
            self.assertEqual(desk.say("house"), house_text(house))
            for many in range(len(keeper.rows()) + 1):
                self.assertEqual(desk.say(f"then {many}"), house_text(keeper.then(many)))
            self.assertEqual(desk.say("late"), listed([" ".join(map(str, row)) for row in keeper.late()], "\n"))
            for row in self.askings(seed, house):
                self.same_answer(desk, house, row, seen)
        for word in ("shut", "at", "book", "again", "worth", "causes", "hands", "clashing", "cost"):
            self.assertGreater(len(seen[word]), 2, word)

    def same_deed(self, desk, keeper, deed):
        try:
            changes = done_by(keeper, deed)
        except CountError as refusal:
            self.refused(type(refusal), desk, row_text(deed))
        else:
            self.assertEqual(desk.say(row_text(deed)), deed_lines(*changes))

    def askings(self, seed, house):
        draw = random.Random(seed)
        rows = ["causes", "hands", "clashing"] + [f"cost {entry[1]}" for entry in house[2]] + ["cost zzz"]
        for good in house[1]:
            rows += [f"shut {good}", f"again {good}"]
            for moment in draw.sample(range(10), 3) + [0, 9999, 300]:
                rows.append(f"worth {good} {moment}")
                rows += [f"{word} {good} {place} {moment}" for place in house[0] for word in ("at", "book")]
        return rows

    def same_answer(self, desk, house, row, seen):
        try:
            answer = answer_to_asking(house, row.split(" "))
        except CountError as refusal:
            self.refused(type(refusal), desk, row)
        else:
            self.assertEqual(desk.say(row), answer)
            seen.setdefault(row.split(" ")[0], set()).add(answer)

    def test_what_is_told_of_the_now(self):
        words = set()
        for seed in range(30):
            places, goods, deeds = drawn_deeds(seed, 15)
            desk = Desk(house_text((places, goods, ())))
            for deed in deeds:
                try:
                    desk.say(row_text(deed))
                except CountError:
                    pass
            house = read_house(desk.say("house"))
            for good in goods:
                for place in places:
                    row = f"now {good} {place}"
                    if clashes(house, good):
                        self.refused(NoFilling, desk, row)
                    else:
                        paper = read_told(desk.say(row))
                        track = track_at(house, place, len(house[2]))
                        self.assertEqual(paper[0], told(house, good, ("now", track))[0])
                        self.assertEqual(paper[1] if paper[0] == "known" else None, stock_now(house, good, place))
                        words.add(paper[0])
        self.assertEqual(words, {"known", "free"})

    def test_lots_and_trees(self):
        words = set()
        for seed in range(60):
            house = small_house(seed)
            desk = desk_told([row_text(("enter", entry)) for entry in house[2]], house_text((house[0], house[1], ())))
            self.assertEqual(desk.say("house"), house_text(house))
            paper = least_lot(house)
            if paper[0] == "more":
                self.assertEqual(desk.say("lot"), "more")
                self.assertTrue(holds(house, read_tree(desk.say("tree")), 2))
            else:
                self.assertEqual(desk.say("lot"), "settles " + listed(paper[1], " "))
                if paper[1] == ():
                    self.assertEqual(desk.say("tree"), "none")
                else:
                    self.assertTrue(holds(house, read_tree(desk.say("tree")), len(paper[1]) - 1))
            words.add((paper[0], len(paper[1])))
        self.assertTrue({("settles", 0), ("settles", 1), ("settles", 2)} <= words)
        self.assertIn("more", [word for word, many in words])

    def test_the_same_rows_and_two_side_by_side(self):
        for seed in range(10):
            places, goods, deeds = drawn_deeds(seed, 30)
            start = house_text((places, goods, ()))
            alone, one, other = Desk(start), Desk(start), Desk(start)
            answers = []
            for desk in (alone, one):
                answers.append([])
                for deed in deeds:
                    for row in (row_text(deed), "house", "late", "clashing", "hands", f"shut {goods[0]}", f"again {goods[-1]}"):
                        try:
                            answers[-1].append(desk.say(row))
                        except CountError as refusal:
                            answers[-1].append(type(refusal))
                    if desk == one:
                        try:
                            other.say(row_text(("back", deed[1][1])) if deed[0] == "enter" else "close 7 up")
                        except CountError:
                            pass
            self.assertEqual(answers[0], answers[1])
            self.assertEqual(other.say("house"), start)


if __name__ == "__main__":
    unittest.main()
