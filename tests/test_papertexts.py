import copy
import random
import re
import unittest

from shelfcounts.clashes import clashes
from shelfcounts.errors import NoText
from shelfcounts.known import told
from shelfcounts.paperreader import read_told, read_tree
from shelfcounts.papertexts import told_text, tree_text
from shelfcounts.pieces import ties
from shelfcounts.settling import least_lot
from tests.helper import drawn_house, fitting_house, small_house, spoilt_texts, whatever

PAPERS = {
    "known 0 .": ("known", 0, []),
    "known -7 left:0": ("known", -7, [("left", 0)]),
    "known 12 a:9 a:10 b:0 b:99": ("known", 12, [("a", 9), ("a", 10), ("b", 0), ("b", 99)]),
    "free .": ("free", []),
    "free +begin:left": ("free", [(("begin", "left"), True)]),
    "free -now:a +look:a -some:a +begin:a": (
        "free", [(("now", "a"), False), (("look", "a"), True), (("some", "a"), False), (("begin", "a"), True)]),
}
LEAF = ("oil", ("c",), ())
TREES = {
    "oil[c]()": LEAF,
    "oil[a b]()": ("oil", ("a", "b"), ()),
    "oil[a b](oil[c]() oil[c]())": ("oil", ("a", "b"), (LEAF, LEAF)),
    "oil[a](rice[b](oil[c]()))": ("oil", ("a",), (("rice", ("b",), (LEAF,)),)),
    "oil[a b](oil[c]() rice[a bb](oil[c]() oil[c]()))": (
        "oil", ("a", "b"), (LEAF, ("rice", ("a", "bb"), (LEAF, LEAF)))),
}


def is_paper_text(text):
    """Whether it is the text of what is told of a tie, by the words of the document."""
    known = re.fullmatch("known (0|-?[1-9][0-9]{0,59}) (.+)", text, re.DOTALL)
    if known:
        words = known[2].split(" ")
        if not all(re.fullmatch("[a-z]{1,8}:(0|[1-9][0-9]?)", word) for word in words):
            return known[2] == "."
        pieces = [(word.split(":")[0], int(word.split(":")[1])) for word in words]
        return pieces == sorted(set(pieces))
    free = re.fullmatch("free (.+)", text, re.DOTALL)
    if not free:
        return False
    words = free[1].split(" ")
    if not all(re.fullmatch(r"[+-](begin|now|look|some):[a-z]{1,8}", word) for word in words):
        return free[1] == "."
    return len({word[1:] for word in words}) == len(words)


def is_tree_text(text):
    """Whether it is the text of a tree, by the words of the document."""
    name = "[a-z]{1,8}"
    pattern = rf"{name}\[{name}( {name})*\]\(\)"
    for step in range(2):
        pattern = rf"{name}\[{name}( {name})*\]\(({pattern}( {pattern})*)?\)"
    return re.fullmatch(pattern, text) is not None and numbers_fit(tree_by_python(text))


def tree_by_python(text):
    """The tree, as Python reads it where brackets and names are written as in Python."""
    written = re.sub(r"([a-z]+)\[([a-z ]+)\]\(|\)",
                     lambda found: f"('{found[1]}', {tuple(found[2].split())}, (" if found[1] else ")),", text)
    return eval(written)[0]


def numbers_fit(tree):
    good, names, trees = tree
    return list(names) == sorted(set(names)) and len(trees) in (0, len(names)) and all(map(numbers_fit, trees))


def drawn_tree(draw, within):
    names = sorted({"".join(draw.choice("abc") for letter in range(draw.randint(1, 3))) for name in range(draw.randint(1, 3))})
    trees = ()
    if within > 1 and draw.random() < 0.7:
        trees = tuple(drawn_tree(draw, within - 1) for name in names)
    return (draw.choice(["oil", "rice"]), tuple(names), trees)


class PaperTest(unittest.TestCase):
    def refused(self, read, text):
        with self.subTest(text=str(text)[:80]):
            with self.assertRaises(NoText) as caught:
                read(text)
            self.assertEqual(caught.exception.line, 0)

    def test_written_and_read(self):
        for text, paper in PAPERS.items():
            self.assertEqual(told_text(paper), text)
            self.assertEqual(read_told(text), paper)
            self.assertEqual([type(part) for part in read_told(text)], [type(part) for part in paper])
            self.assertTrue(is_paper_text(text))

    def test_papers_that_are_told(self):
        words = set()
        for seed in range(60):
            house = fitting_house(seed) if seed % 2 else drawn_house(seed)
            for good in house[1]:
                for row in ties(house, good):
                    if not clashes(house, good):
                        paper = told(house, good, row[0])
                        text = told_text(paper)
                        self.assertEqual(read_told(text), paper)
                        self.assertTrue(is_paper_text(text))
                        words.add(paper[0])
        self.assertEqual(words, {"known", "free"})

    def test_numbers(self):
        for amount in (0, -1, 10 ** 60 - 1, -(10 ** 60 - 1)):
            self.assertEqual(read_told(f"known {amount} ."), ("known", amount, []))
            self.assertEqual(told_text(("known", amount, [])), f"known {amount} .")
        for amount in ("-0", "00", "01", "-01", "+1", "9" * 61, "-" + "9" * 61, "9" * 9000, "-", "--1", "", "x"):
            self.refused(read_told, f"known {amount} .")
        for number in ("0", "9", "10", "99"):
            self.assertEqual(read_told(f"known 1 a:{number}"), ("known", 1, [("a", int(number))]))
        for number in ("00", "01", "100", "-1", "-0", "", "x", "0 ", "1:1", "9" * 61):
            self.refused(read_told, f"known 1 a:{number}")

    def test_sides(self):
        for side in ("", " ", ". .", ". a:0", "a:0 .", "a:0  a:1", " a:0", "a:0 ", "a:1 a:0", "a:0 a:0", "b:0 a:1", "a:10 a:9",
                     "A:0", "abcdefghi:0", ":0", "a", "a:", "0:a", "a0", "+a:0", "..", "a:0\n", "a:0\na:1"):
            self.refused(read_told, "known 1 " + side)
        self.assertEqual(read_told("known 1 abcdefgh:0")[2], [("abcdefgh", 0)])

    def test_rings(self):
        for ring in ("", " ", ". .", ". +now:a", "+now:a .", "now:a", "++now:a", "+-now:a", "+now:a  +now:b", "+now:a ", " +now:a",
                     "+now:a -now:a", "+now:a +now:a", "+end:a", "+now:A", "+now:abcdefghi", "+now:", "+:a", "+now", "+now:a:b", "+",
                     "-", "+begins:a", "+Now:a", "+now:a\n", "*now:a", "+now:-", "+some:"):
            self.refused(read_told, "free " + ring)
        self.assertEqual(read_told("free +now:abcdefgh -now:a"), ("free", [(("now", "abcdefgh"), True), (("now", "a"), False)]))

    def test_other_words(self):
        for text in ("", " ", "known", "free", "known 1", "known .", "free. ", "Known 1 .", "known  1 .", " known 1 .", "known 1 . ",
                     "free 1 .", "known +now:a", "free a:0", "known 1  .", "unknown 1 .", "known 1 .\n", "\nknown 1 .", "free .\nfree ."):
            self.refused(read_told, text)

    def test_spoilt_texts(self):
        right = 0
        for text in PAPERS:
            for spoilt in spoilt_texts(text):
                if is_paper_text(spoilt):
                    right += 1
                    self.assertEqual(told_text(read_told(spoilt)), spoilt)
                else:
                    self.refused(read_told, spoilt)
        self.assertGreater(right, 60)

    def test_what_is_no_text(self):
        for thing in whatever() + list(PAPERS.values()) + list(TREES.values()):
            self.refused(read_told, thing)
            self.refused(read_tree, thing)

    def test_what_is_handed_in_stays_and_what_is_told_is_the_askers(self):
        for text, paper in PAPERS.items():
            kept = copy.deepcopy(paper)
            told_text(paper)
            self.assertEqual(paper, kept)
            first = read_told(text)
            first[-1].append("more")
            self.assertEqual(read_told(text), kept)


class TreeTest(unittest.TestCase):
    refused = PaperTest.refused

    def test_written_and_read(self):
        for text, tree in TREES.items():
            self.assertEqual(tree_text(tree), text)
            self.assertEqual(read_tree(text), tree)
            self.assertTrue(is_tree_text(text))
            self.assertEqual(tree_by_python(text), tree)

    def test_within_one_another(self):
        text = "oil[c]()"
        for many in range(2, 70):
            text = f"oil[c]({text})"
            if many <= 3:
                self.assertEqual(tree_text(read_tree(text)), text)
            else:
                self.refused(read_tree, text)
        self.refused(read_tree, "oil[a b](oil[a](oil[a](oil[a]())) oil[a]())")
        self.refused(read_tree, "oil[a b](oil[a]() oil[a](oil[a](oil[a]())))")
        self.refused(read_tree, "oil[a](" * 1400)

    def test_trees_beside_one_another(self):
        for text in ("oil[a b](oil[c]() oil[c](oil[c]()))", "oil[a b](oil[c](oil[c]()) oil[c]())",
                     "oil[a b c](oil[c](oil[c]()) oil[c]() oil[a b]())"):
            self.assertEqual(tree_text(read_tree(text)), text)
            self.assertEqual(read_tree(text), tree_by_python(text))
        for text in ("oil[a b](oil[c]())", "oil[a](oil[c]() oil[c]())", "oil[a b](oil[c]() oil[c]() oil[c]())",
                     "oil[a b](oil[c]() oil[c d](oil[a]()))"):
            self.refused(read_tree, text)

    def test_names(self):
        for text in ("oil[]()", "oil[b a]()", "oil[a a]()", "oil[a  b]()", "oil[ a]()", "oil[a ]()", "oil[A]()", "oil[abcdefghi]()",
                     "[a]()", "Oil[a]()", "abcdefghi[a]()", "oil [a]()", "oil[a,b]()", "oil[-]()"):
            self.refused(read_tree, text)
        self.assertEqual(read_tree("abcdefgh[abcdefgh]()"), ("abcdefgh", ("abcdefgh",), ()))
        many = sorted({a + b for a in "abcdefghijkl" for b in "abcdefghijkl"})
        wide = ("oil", tuple(many), tuple(LEAF for name in many))
        self.assertEqual(read_tree(tree_text(wide)), wide)

    def test_brackets_and_blanks(self):
        for text in ("", " ", "oil", "oil[a]", "oil[a](", "oil[a])", "oil[a]()()", "oil[a]() ", " oil[a]()", "oil[a] ()", "oil[a]( )",
                     "oil[a](oil[b]() )", "oil[a]( oil[b]())", "oil[a b](oil[c]()oil[c]())", "oil[a b](oil[c]()  oil[c]())", "oil[a]() oil[a]()",
                     "oil[a](oil[b]()", "oil[a](oil[b]()))", "oil(a)[]", "oil[a][]", "(oil[a]())", "oil[[a]]()", "oil[a]()\n", "oil[a\nb]()",
                     "oil[a b](oil[c]()\noil[c]())", "[](", "](", ")"):
            self.refused(read_tree, text)

    def test_spoilt_texts(self):
        right = 0
        for text in TREES:
            for spoilt in spoilt_texts(text):
                if is_tree_text(spoilt):
                    right += 1
                    self.assertEqual(read_tree(spoilt), tree_by_python(spoilt))
                    self.assertEqual(tree_text(read_tree(spoilt)), spoilt)
                else:
                    self.refused(read_tree, spoilt)
        self.assertGreater(right, 60)

    def test_drawn_trees(self):
        draw = random.Random(1)
        for turn in range(300):
            tree = drawn_tree(draw, 3)
            self.assertEqual(read_tree(tree_text(tree)), tree)

    def test_trees_that_are_told(self):
        found = 0
        for seed in range(60):
            tree = least_lot(small_house(seed))[-1]
            if tree is not None:
                self.assertEqual(read_tree(tree_text(tree)), tree)
                found += tree[2] != ()
        self.assertGreater(found, 10)


if __name__ == "__main__":
    unittest.main()
