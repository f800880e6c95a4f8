import copy
import itertools
import random
import unittest

from shelfcounts.clashes import clashes
from shelfcounts.fewest import fewest, shows_fewest
from shelfcounts.houses import house_of
from shelfcounts.known import told
from shelfcounts.pieces import pieces, ties
from shelfcounts.rings import is_ring
from tests.helper import (
    MIXED, drawn_house, fitting_house, looks, null_vectors, of_other_kinds, places_in, rank_at, reshaped, small_house,
    whatever,
)

EMPTY = house_of(("a",), ("oil",), ())
# A some between a and b; nothing is counted.
PAIR = house_of(("a", "b"), ("oil", "rice"), [("some", "c", 1, "oil", "a", "b"), ("look", "d", 1, "rice", "a")])
ENDS = [("begin", "a"), ("begin", "b"), ("now", "a"), ("now", "b")]


def all_ties(house, good):
    return [row[0] for row in ties(house, good)]


def fewest_by_the_words(house, good, wanted, thing):
    """Of three lists, the first of ties, what the document says."""
    taken, rings, sides = thing
    ends = {tie: (out, into) for tie, out, into in ties(house, good)}
    members = [row[0] for row in pieces(house, good)]
    if any(tie not in wanted for tie in taken) or len(set(taken)) != len(taken) or len(rings) != len(taken):
        return False
    for at, ring in enumerate(rings):
        if not is_ring(house, good, ring) or taken[at] not in dict(ring) or set(dict(ring)) & set(taken[:at]):
            return False
    if any(row is None or len(row) != 2 for row in sides):
        return False
    if [row[0] for row in sides] != sorted(set(wanted) - set(taken)):
        return False
    for tie, side in sides:
        if any(piece not in members for piece in side) or side != sorted(set(side)):
            return False
        halved = {other for other in ends if (ends[other][0] in side) + (ends[other][1] in side) == 1}
        if tie not in halved or not halved - {tie} <= set(taken):
            return False
    return True


def some_wanted(house, good, draw):
    """Several lists of ties that may be wanted."""
    every = all_ties(house, good)
    return [[], every, every[::-1], draw.sample(every, draw.randint(1, len(every))), [draw.choice(every)],
            [tie for tie in every if tie[0] == "now"]]


class FewestTest(unittest.TestCase):
    def test_none_wanted(self):
        for house in (EMPTY, PAIR, MIXED):
            self.assertEqual(fewest(house, "oil", []), ([], [], []))
            self.assertIs(shows_fewest(house, "oil", [], ([], [], [])), True)
            self.assertIs(shows_fewest(house, "oil", [ENDS[0]], ([], [], [])), False)

    def test_a_house_without_entries(self):
        begin, now = ("begin", "a"), ("now", "a")
        for wanted in ([begin, now], [now, begin]):
            taken, rings, sides = fewest(EMPTY, "oil", wanted)
            self.assertEqual(taken, [begin])
            self.assertEqual(sides, [(now, [("a", 0)])])
            self.assertEqual({step[0] for step in rings[0]}, {begin, now})
        self.assertEqual(fewest(EMPTY, "oil", [now])[0], [now])
        self.assertEqual(fewest(EMPTY, "oil", [now])[2], [])

    def test_a_house_with_a_some(self):
        taken, rings, sides = fewest(PAIR, "oil", ENDS[::-1] + [("some", "c")])
        self.assertEqual(taken, [("begin", "a"), ("begin", "b"), ("now", "a")])
        self.assertEqual([tie for tie, side in sides], [("now", "b"), ("some", "c")])
        self.assertIn(sides[1][1], ([("a", 0)], [("b", 0)]))
        taken, rings, sides = fewest(PAIR, "oil", [("some", "c"), ("begin", "a"), ("now", "a")])
        self.assertEqual(taken, [("begin", "a"), ("now", "a")])
        self.assertEqual(sides, [(("some", "c"), [("a", 0)])])
        taken, rings, sides = fewest(PAIR, "rice", all_ties(PAIR, "rice"))
        self.assertEqual(taken, [("begin", "a"), ("begin", "b")])
        self.assertEqual([tie for tie, side in sides], [("look", "d"), ("now", "a"), ("now", "b")])

    def test_known_ones_need_not_be_taken(self):
        taken, rings, sides = fewest(MIXED, "oil", all_ties(MIXED, "oil"))
        self.assertEqual(taken, [("begin", "b")])
        self.assertEqual([row for row in sides if row[0][1] in ("a", "d")], [
            (("begin", "a"), [("a", 0)]), (("now", "a"), [("a", 2)]), (("some", "d"), [("a", 1)]),
        ])
        self.assertEqual([tie for tie, side in sides],
                         [("begin", "a"), ("look", "e"), ("now", "a"), ("now", "b"), ("some", "d")])
        self.assertEqual(fewest(MIXED, "oil", [("some", "d")]), ([], [], [(("some", "d"), [("a", 1)])]))

    def test_thirty_entries(self):
        house = house_of(("left",), ("oil",), looks(30))
        taken, rings, sides = fewest(house, "oil", all_ties(house, "oil"))
        self.assertEqual((taken, len(rings[0]), len(sides)), ([("begin", "left")], 32, 31))
        self.assertIs(shows_fewest(house, "oil", all_ties(house, "oil"), (taken, rings, sides)), True)

    def test_goods_that_clash_and_goods_that_do_not(self):
        taken_ones = clashing = left = 0
        for seed in range(160):
            house = drawn_house(seed)
            draw = random.Random(seed)
            for good in house[1]:
                every = all_ties(house, good)
                free = null_vectors(house, good)
                for wanted in some_wanted(house, good, draw):
                    with self.subTest(seed=seed, good=good, wanted=wanted):
                        kept = list(wanted)
                        thing = fewest(house, good, wanted)
                        self.assertEqual(wanted, kept)
                        self.assertEqual([type(part) for part in (thing, *thing)], [tuple, list, list, list])
                        self.assertIs(shows_fewest(house, good, wanted, thing), True)
                        self.assertTrue(fewest_by_the_words(house, good, wanted, thing))
                        expected = []
                        for tie in sorted(wanted):
                            columns = [every.index(other) for other in expected + [tie]]
                            if rank_at(free, columns) == len(columns):
                                expected.append(tie)
                        self.assertEqual(thing[0], expected)
                        taken_ones += len(thing[0])
                        left += len(thing[2])
                        clashing += clashes(house, good)
        self.assertGreater(min(taken_ones, clashing, left), 300)

    def test_no_fewer_do_of_whatever_ties(self):
        tried = 0
        for seed in range(60):
            house = small_house(seed)
            good = house[1][0]
            every = all_ties(house, good)
            free = null_vectors(house, good)
            if len(every) > 11:
                continue
            for wanted in some_wanted(house, good, random.Random(seed)):
                columns = [every.index(tie) for tie in wanted]
                need = len(fewest(house, good, wanted)[0])
                for many in range(need):
                    for lot in itertools.combinations(range(len(every)), many):
                        # A wanted one stays free where the lot's amounts are known.
                        self.assertGreater(rank_at(free, list(lot) + columns), rank_at(free, list(lot)))
                        tried += 1
        self.assertGreater(tried, 500)

    def test_taken_amounts_make_all_wanted_ones_known(self):
        for seed in range(40):
            house = fitting_house(seed)
            good = house[1][0]
            every = all_ties(house, good)
            free = null_vectors(house, good)
            taken, rings, sides = fewest(house, good, every)
            columns = [every.index(tie) for tie in taken]
            self.assertEqual(rank_at(free, columns), rank_at(free, list(range(len(every)))))
            known = [tie for tie in every if told(house, good, tie)[0] == "known"]
            self.assertEqual([tie for tie in known if tie in taken], [])

    def test_what_is_handed_in_and_told(self):
        house = copy.deepcopy(PAIR)
        wanted = [("some", "c"), *ENDS[::-1]]
        first = fewest(house, "oil", wanted)
        kept = copy.deepcopy(first)
        first[1][0].clear()
        first[2][0][1].clear()
        for part in first:
            part.clear()
        self.assertEqual(fewest(house, "oil", wanted), kept)
        self.assertIs(shows_fewest(house, "oil", wanted, kept), True)
        self.assertEqual(fewest(house, "oil", wanted), kept)
        self.assertEqual(wanted, [("some", "c"), *ENDS[::-1]])
        self.assertEqual(house, PAIR)


class ShowsFewestTest(unittest.TestCase):
    def test_taken_in_other_orders(self):
        begin, now = ("begin", "a"), ("now", "a")
        ring = [(begin, True), (now, True)]
        wanted = [begin, now]
        self.assertIs(shows_fewest(EMPTY, "oil", wanted, ([begin], [ring], [(now, [("a", 0)])])), True)
        self.assertIs(shows_fewest(EMPTY, "oil", wanted, ([now], [ring], [(begin, [("a", 0)])])), True)
        self.assertIs(shows_fewest(EMPTY, "oil", wanted, ([begin], [ring], [(begin, [("a", 0)])])), False)
        self.assertIs(shows_fewest(EMPTY, "oil", wanted, ([begin, now], [ring, ring], [])), False)
        self.assertIs(shows_fewest(EMPTY, "oil", wanted, ([begin], [ring], [])), False)
        self.assertIs(shows_fewest(EMPTY, "oil", [begin], ([begin], [ring], [])), True)
        self.assertIs(shows_fewest(EMPTY, "oil", [begin], ([now], [ring], [(begin, [("a", 0)])])), False)
        self.assertIs(shows_fewest(EMPTY, "oil", [begin], ([begin], [ring], [(now, [("a", 0)])])), False)
        self.assertIs(shows_fewest(EMPTY, "oil", [begin], ([], [], [(begin, [("a", 0)])])), False)

    def test_a_ring_has_none_of_those_ahead_in_taken(self):
        a, b, c, d = ENDS
        some = ("some", "c")
        one = [(a, True), (c, True)]
        other = [(b, True), (d, True)]
        across = [(b, True), (some, False), (c, True)]
        back = [(d, True), (c, False), (some, True)]
        for taken, rings, right in (
            ([a, b], [one, across], True), ([a, b], [one, other], True), ([a, b], [one, one], False),
            ([a, b, d], [one, other, back], True), ([a, b, d], [one, other, other], False),
            ([a, b, d], [one, across, back], True), ([a, b, d], [one, other, one], False),
            ([d, b, a], [other, across, one], True), ([d, b, a], [back, across, one], True),
            ([d, b, a], [other, other, one], False), ([b, d, a], [one, across, other], False),
            ([b, d, a], [other, back, one], True), ([b, d, a], [across, other, one], False),
            ([b, d, a], [other, back], False), ([b, d, a], [other, back, one, one], False),
        ):
            self.assertIs(shows_fewest(PAIR, "oil", sorted(taken), (taken, rings, [])), right, (taken, rings))
        sides = [(c, [("a", 0), ("b", 0)])]
        self.assertIs(shows_fewest(PAIR, "oil", ENDS, ([d, b, a], [other, across, one], sides)), True)
        self.assertIs(shows_fewest(PAIR, "oil", ENDS, ([d, b], [other, across], sides)), False)

    def test_sides_are_halved_by_taken_ones_alone(self):
        wanted = [*ENDS, ("some", "c")]
        taken, rings, sides = fewest(PAIR, "oil", wanted)
        whole = [("a", 0), ("b", 0)]
        self.assertEqual(sides[0], (("now", "b"), whole))
        for now, right in (([("a", 0)], False), ([("b", 0)], False), (whole, True), ([], False), (whole[::-1], False)):
            self.assertIs(shows_fewest(PAIR, "oil", wanted, (taken, rings, [(("now", "b"), now), sides[1]])), right)
        for some, right in (([("a", 0)], True), ([("b", 0)], False), (whole, False), ([], False)):
            self.assertIs(shows_fewest(PAIR, "oil", wanted, (taken, rings, [sides[0], (("some", "c"), some)])), right)
        self.assertIs(shows_fewest(PAIR, "oil", wanted, (taken, rings, sides[::-1])), False)
        self.assertIs(shows_fewest(PAIR, "rice", wanted[:4], (taken, rings, sides)), False)

    def test_whatever_shows_nothing(self):
        wanted = [("begin", "a"), ("now", "a")]
        right = fewest(EMPTY, "oil", wanted)
        for thing in whatever():
            for wrong in (thing, (thing,) * 3, [thing] * 3, (*right, thing)):
                self.assertIs(shows_fewest(EMPTY, "oil", wanted, wrong), False)
            for at, part in enumerate(right):
                for wrong in (thing, [thing], part + [thing]):
                    self.assertIs(shows_fewest(EMPTY, "oil", wanted, (*right[:at], wrong, *right[at + 1:])), False)
            if thing != []:
                self.assertIs(shows_fewest(EMPTY, "oil", [], (thing, [], [])), False)
                self.assertIs(shows_fewest(EMPTY, "oil", [], ([], thing, [])), False)
                self.assertIs(shows_fewest(EMPTY, "oil", [], ([], [], thing)), False)

    def test_papers_of_other_kinds_show_nothing(self):
        for house, good in ((EMPTY, "oil"), (PAIR, "oil"), (PAIR, "rice"), (MIXED, "oil")):
            wanted = all_ties(house, good)
            right = fewest(house, good, wanted)
            self.assertIs(shows_fewest(house, good, wanted, right), True)
            for thing in of_other_kinds(right):
                self.assertIs(shows_fewest(house, good, wanted, thing), False, thing)

    def test_reshaped_papers_by_the_words_of_the_document(self):
        let_by = refused = 0
        for seed in range(24):
            house = small_house(seed)
            good = house[1][-1]
            for wanted in some_wanted(house, good, random.Random(seed))[2:4]:
                right = fewest(house, good, wanted)
                for thing in reshaped(right) + exchanged(house, good, right):
                    if len(thing) != 3:
                        self.assertIs(shows_fewest(house, good, wanted, thing), False)
                        continue
                    expected = fewest_by_the_words(house, good, wanted, thing)
                    self.assertIs(shows_fewest(house, good, wanted, thing), expected, thing)
                    let_by += expected
                    refused += not expected
                    # Whatever is let by, its taken ones are as many.
                    self.assertTrue(not expected or len(thing[0]) == len(right[0]))
        self.assertGreater(let_by, 100)
        self.assertGreater(refused, 1000)

    def test_taken_in_whatever_order(self):
        draw = random.Random(8)
        others = 0
        for seed in range(80):
            house = drawn_house(seed)
            good = house[1][0]
            every = all_ties(house, good)
            wanted = draw.sample(every, draw.randint(1, len(every)))
            thing = taken_in_order(house, good, wanted)
            self.assertIs(shows_fewest(house, good, sorted(wanted), thing), True)
            self.assertTrue(fewest_by_the_words(house, good, wanted, thing))
            self.assertEqual(len(thing[0]), len(fewest(house, good, wanted)[0]))
            others += set(thing[0]) != set(fewest(house, good, wanted)[0])
        self.assertGreater(others, 20)


def exchanged(house, good, paper):
    """The paper with a tie or a piece exchanged for another one, or a step gone the other way about."""
    every = all_ties(house, good)
    members = [row[0] for row in pieces(house, good)]
    found = []
    for part, put in places_in(paper):
        if part in (True, False):
            found.append(put(not part))
        elif part in every:
            found.append(put(every[every.index(part) - 1]))
        elif part in members:
            found.append(put(members[members.index(part) - 1]))
    return found


def reached_from(led, start):
    """The spots that hang together with this one, each with the steps that lead there."""
    ways = {start: []}
    while True:
        more = {}
        for tie, out, into in led:
            if out in ways and into not in ways:
                more[into] = ways[out] + [(tie, True)]
            elif into in ways and out not in ways:
                more[out] = ways[into] + [(tie, False)]
        if not more:
            return ways
        ways.update(more)


def taken_in_order(house, good, wanted):
    """The paper where the wanted ones are gone through in the order in which they are handed in."""
    led = ties(house, good)
    taken, rings, sides = [], [], {}
    for wish in wanted:
        out, into = next(row[1:] for row in led if row[0] == wish)
        ways = reached_from([row for row in led if row[0] != wish and row[0] not in taken], into)
        if out in ways:
            taken.append(wish)
            rings.append([(wish, True)] + ways[out])
        else:
            sides[wish] = (out, into)
    rows = []
    for wish in sorted(sides):
        for spot in sides[wish]:
            reached = reached_from([row for row in led if row[0] != wish and row[0] not in taken], spot)
            if None not in reached:
                side = sorted(reached)
        rows.append((wish, side))
    return (taken, rings, rows)


if __name__ == "__main__":
    unittest.main()
