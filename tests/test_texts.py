import copy
import random
import re
import unittest

from shelfcounts.entries import is_entry
from shelfcounts.errors import NoHouse, NoText
from shelfcounts.houses import house_of
from shelfcounts.keeper import Keeper
from shelfcounts.reader import read_entry, read_house, read_row
from shelfcounts.texts import entry_text, house_text, row_text
from tests.helper import PLACES, drawn_deeds, drawn_entry, drawn_house, looks, spoilt_texts, whatever

ENTRIES = {
    "come a 0 oil left 1 0": ("come", "a", 0, "oil", "left", 1, 0),
    "go b 9999 oil left 1000000000": ("go", "b", 9999, "oil", "left", 10 ** 9),
    "move c 7 oil left right 20": ("move", "c", 7, "oil", "left", "right", 20),
    "some a 7 oil left -": ("some", "a", 7, "oil", "left", ""),
    "some abcdefgh 7 oil left right": ("some", "abcdefgh", 7, "oil", "left", "right"),
    "swap e 7 left right": ("swap", "e", 7, "left", "right"),
    "count f 7 oil left 0 ann": ("count", "f", 7, "oil", "left", 0, "ann"),
    "look g 7 oil left": ("look", "g", 7, "oil", "left"),
}
HOUSE = house_of(("left", "right"), ("oil", "rice"), [
    ("come", "a", 5, "oil", "left", 3, 2), ("some", "b", 5, "rice", "right", ""), ("swap", "c", 6, "left", "right"),
    ("count", "d", 6, "oil", "left", 0, "ann"),
])
TEXT = """places left right
goods oil rice
come a 5 oil left 3 2
some b 5 rice right -
swap c 6 left right
count d 6 oil left 0 ann"""
ROWS = {
    "enter some a 7 oil left -": ("enter", ("some", "a", 7, "oil", "left", "")),
    "back abcdefgh": ("back", "abcdefgh"),
    "close 0 up": ("close", 0, "up"),
    "close 99 refuse": ("close", 99, "refuse"),
}


def line_refused(test, read, text):
    """The line that is told where the text is refused."""
    with test.assertRaises(NoText) as caught:
        read(text)
    return caught.exception.line


def loosely(line):
    """The parts of a line, numbers as Python reads them."""
    return tuple(int(word) if re.fullmatch("-?[0-9]{1,99}", word) else "" if word == "-" else word
                 for word in line.split(" "))


def is_text_of_house(text):
    """Whether a house is there whose text it is: it must be one of the loosely read parts."""
    lines = text.split("\n")
    if len(lines) < 2:
        return False
    try:
        house = house_of(lines[0].split(" ")[1:], lines[1].split(" ")[1:], [loosely(line) for line in lines[2:]])
    except NoHouse:
        return False
    return house_text(house) == text


def first_wrong_line(text):
    """The number of the first line with which what is ahead isn't what a house may begin with; None where all may."""
    lines = text.split("\n")
    if not is_text_of_house(lines[0] + "\ngoods oil"):
        return 0
    for many in range(2, len(lines) + 1):
        if not is_text_of_house("\n".join(lines[:many])):
            return many - 1
    return 1 if len(lines) == 1 else None


class EntryTextTest(unittest.TestCase):
    def test_written_and_read(self):
        for text, entry in ENTRIES.items():
            self.assertEqual(entry_text(entry), text)
            self.assertEqual(read_entry(text), entry)
            self.assertEqual([type(part) for part in read_entry(text)], [type(part) for part in entry])

    def test_drawn_entries(self):
        draw = random.Random(1)
        for word in ("come", "go", "move", "some", "swap", "count", "look") * 50:
            entry = drawn_entry(draw, word, "xy", PLACES, ("oil", "rice"))
            self.assertEqual(read_entry(entry_text(entry)), entry)

    def test_spoilt_texts(self):
        right = 0
        for text in ENTRIES:
            for spoilt in spoilt_texts(text):
                entry = loosely(spoilt)
                if is_entry(entry) and entry_text(entry) == spoilt:
                    self.assertEqual(read_entry(spoilt), entry)
                    right += 1
                else:
                    with self.subTest(spoilt=spoilt):
                        self.assertEqual(line_refused(self, read_entry, spoilt), 0)
        self.assertGreater(right, 100)

    def test_numbers(self):
        self.assertEqual(read_entry("count a 7 oil left 0 ann")[5], 0)
        for number in ("00", "01", "-1", "-0", "+1", "1000000001", "9" * 60, "9" * 61, "9" * 9000, "", "x", "1.0"):
            with self.subTest(number=number[:70]):
                self.assertEqual(line_refused(self, read_entry, f"count a 7 oil left {number} ann"), 0)
                self.assertEqual(line_refused(self, read_entry, f"count a {number} oil left 7 ann"), 0)
        for moment, right in (("0", True), ("9999", True), ("10000", False), ("09", False), ("-", False)):
            text = f"look a {moment} oil left"
            if right:
                self.assertEqual(read_entry(text)[2], int(moment))
            else:
                self.assertEqual(line_refused(self, read_entry, text), 0)
        self.assertEqual(line_refused(self, read_entry, "come a 7 oil left 0 1"), 0)
        self.assertEqual(line_refused(self, read_entry, "go a 7 oil left 0"), 0)

    def test_names(self):
        self.assertEqual(read_entry("look abcdefgh 7 oil left")[1], "abcdefgh")
        for name in ("abcdefghi", "A", "a1", "-", "", "a-b", "a\n", "\u00e4"):
            for text in ("look {} 7 oil left", "look a 7 {} left", "look a 7 oil {}", "some a 7 oil {} -",
                         "count a 7 oil left 1 {}", "swap a 7 left {}", "move a 7 oil left {} 1"):
                self.assertEqual(line_refused(self, read_entry, text.format(name)), 0)

    def test_the_outside(self):
        for text in ("some a 7 oil left ", "some a 7 oil left", "some a 7 oil left --", "some a 7 oil - left",
                     "some a 7 oil - -", "some a 7 - left -", "look a 7 oil -", "move a 7 oil left - 1", "- a 7 oil left"):
            self.assertEqual(line_refused(self, read_entry, text), 0)

    def test_unlike_places(self):
        for text in ("some a 7 oil left left", "swap a 7 left left", "move a 7 oil left left 1"):
            self.assertEqual(line_refused(self, read_entry, text), 0)

    def test_lines(self):
        for text in ("look a 7 oil left\n", "\nlook a 7 oil left", "look a 7 oil left\nlook b 7 oil left", "look\na 7 oil left"):
            self.assertEqual(line_refused(self, read_entry, text), 0)

    def test_what_is_no_text(self):
        for thing in whatever() + list(ENTRIES.values()):
            for read in (read_entry, read_house, read_row):
                self.assertEqual(line_refused(self, read, thing), 0)


class HouseTextTest(unittest.TestCase):
    def refused(self, text, line):
        with self.subTest(text=text[-60:]):
            self.assertEqual(first_wrong_line(text), line)
            self.assertEqual(line_refused(self, read_house, text), line)

    def test_written_and_read(self):
        self.assertEqual(house_text(HOUSE), TEXT)
        self.assertEqual(read_house(TEXT), HOUSE)

    def test_without_entries_and_of_thirty(self):
        empty = (("a", "b", "c", "d", "e", "f"), ("x", "y", "z"), ())
        self.assertEqual(house_text(empty), "places a b c d e f\ngoods x y z")
        self.assertEqual(read_house("places a b c d e f\ngoods x y z"), empty)
        self.assertEqual(read_house("places a\ngoods a"), (("a",), ("a",), ()))
        full = house_of(["left"], ["oil"], looks(30))
        self.assertEqual(read_house(house_text(full)), full)
        self.refused(house_text(full) + "\nlook zz 99 oil left", 32)
        self.refused(house_text(full) + "\n", 32)

    def test_drawn_houses(self):
        for seed in range(100):
            house = drawn_house(seed)
            self.assertEqual(read_house(house_text(house)), house)
            self.assertEqual(house_text(read_house(house_text(house))), house_text(house))
            self.assertEqual(len(house_text(house).split("\n")), 2 + len(house[2]))

    def test_places_and_goods(self):
        for line in ("places", "places ", "places b a", "places a a", "places a b c d e f g", "place a", "Places a", "",
                     "goods a", "places  a", "places a ", " places a", "places a  b", "places A", "places abcdefghi", "places -"):
            self.refused(line, 0)
            self.refused(line + "\ngoods oil", 0)
        for line in ("goods", "goods ", "goods b a", "goods a a", "goods a b c d", "good a", "", "places a", "goods  a",
                     "goods a ", "look a 1 oil left"):
            self.refused("places a\n" + line, 1)
            self.refused("places a\n" + line + "\ngoods a", 1)

    def test_the_line_of_goods_is_missing(self):
        self.refused("places a", 1)
        self.refused("places a\n", 1)
        self.refused("", 0)
        self.refused("\n", 0)
        self.refused("goods a\nplaces a", 0)

    def test_entries(self):
        start = "places left right\ngoods oil rice\nlook b 5 oil left"
        for line in ("", " ", "look", "look a 4 oil left", "look a 5 oil left", "look b 5 oil left", "look b 6 oil left",
                     "look c 5 salt left", "look c 5 oil yard", "swap c 6 left yard", "swap a 5 left right", "go c 5 oil left 1",
                     "look c 5 oil left ", "look c  5 oil left", "look c 05 oil left", "places left right", "look c 10000 oil left",
                     "move c 6 oil left yard 1", "some c 6 oil left yard"):
            self.refused(start + "\n" + line, 3)
            self.refused(start + "\n" + line + "\nlook d 7 oil left", 3)
        for line in ("look c 5 oil left", "look a 6 oil left", "look c 9999 oil right", "count c 5 rice right 0 ann", "go a 6 oil left 1"):
            self.assertEqual(read_house(start + "\n" + line)[2][1], loosely(line))
        self.refused(start + "\n", 3)
        self.refused(start + "\n\nlook c 6 oil left", 3)
        # A name that is there not right ahead.
        self.refused(start + "\nlook c 6 oil left\nlook b 7 oil left", 4)

    def test_spoilt_texts(self):
        right = 0
        seen = set()
        for spoilt in spoilt_texts(TEXT, " \na-0"):
            line = first_wrong_line(spoilt)
            if line is None:
                right += 1
                self.assertEqual(house_text(read_house(spoilt)), spoilt)
            else:
                with self.subTest(spoilt=spoilt):
                    self.assertEqual(line_refused(self, read_house, spoilt), line)
                seen.add(line)
        self.assertGreater(right, 30)
        self.assertEqual(seen, set(range(7)))

    def test_drawn_spoilt_texts(self):
        for seed in range(40):
            draw = random.Random(seed)
            text = house_text(drawn_house(seed))
            for turn in range(20):
                at = draw.randint(0, len(text))
                spoilt = text[:at] + draw.choice(["", " ", "\n", "a", "0", "-", "\nlook zz 3 oil back"]) + text[at + draw.randint(0, 1):]
                line = first_wrong_line(spoilt)
                if line is None:
                    self.assertEqual(house_text(read_house(spoilt)), spoilt)
                else:
                    self.assertEqual(line_refused(self, read_house, spoilt), line)

    def test_what_is_handed_in_stays(self):
        house = copy.deepcopy(HOUSE)
        house_text(house)
        self.assertEqual(house, HOUSE)


class RowTextTest(unittest.TestCase):
    def test_written_and_read(self):
        for text, row in ROWS.items():
            self.assertEqual(row_text(row), text)
            self.assertEqual(read_row(text), row)

    def test_drawn_rows(self):
        for seed in range(20):
            places, goods, deeds = drawn_deeds(seed)
            for deed in deeds:
                self.assertEqual(read_row(row_text(deed)), deed)
        keeper = Keeper(["left"], ["oil"])
        keeper.enter(("look", "a", 1, "oil", "left"))
        keeper.back("a")
        keeper.close(3, "up")
        self.assertEqual([read_row(row_text(row)) for row in keeper.rows()], keeper.rows())

    def test_what_is_no_row(self):
        wrong = ["", " ", "enter", "enter ", "enter look", "enter  look a 1 oil left", "enter look a 1 oil left ", "look a 1 oil left",
                 "Enter look a 1 oil left", "back", "back ", "back a b", "back A", "back abcdefghi", "back a ", "back -",
                 "close", "close 1", "close 1 ", "close 1 up ", "close 1 Up", "close  1 up", "close 100 up", "close -1 up", "close 01 up",
                 "close up 1", "close 1 up up", "close 1 down", "close x up", "close 9" + "9" * 9000 + " up", "then 1", "house", " back a",
                 "back a\n", "\nback a", "back a\nback b", "enter look a 1 oil left\n", "close 1 up\n", "back\na", "close 1\nup"]
        for text in wrong:
            with self.subTest(text=text[:60]):
                self.assertEqual(line_refused(self, read_row, text), 0)

    def test_spoilt_texts(self):
        right = 0
        for text in ROWS:
            for spoilt in spoilt_texts(text):
                try:
                    row = read_row(spoilt)
                except NoText as refusal:
                    self.assertEqual(refusal.line, 0)
                    self.assertIsNone(re.fullmatch("back [a-z]{1,8}|close [1-9]?[0-9] (up|refuse)", spoilt))
                    self.assertFalse(spoilt.startswith("enter ") and is_entry(loosely(spoilt[6:]))
                                     and entry_text(loosely(spoilt[6:])) == spoilt[6:])
                else:
                    right += 1
                    self.assertIn(row[0], ("enter", "back", "close"))
                    self.assertEqual(row_text(row), spoilt)
        self.assertGreater(right, 50)


if __name__ == "__main__":
    unittest.main()
