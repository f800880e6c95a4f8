import copy
import itertools
import random
import unittest

from shelfcounts.errors import Closed, CountError, NoDay, NoEntry, NoHouse, NoName, TooMany
from shelfcounts.houses import house_of
from shelfcounts.names import is_name
from shelfcounts.states import closed_by, entered, house_now, late_ones, start, taken_back
from tests.helper import drawn_deeds, state_behind, whatever

PLACES = ("left", "right")
GOODS = ("oil", "rice")
COME = ("come", "a", 250, "oil", "left", 3, 2)
GO = ("go", "b", 299, "oil", "left", 1)
MOVE = ("move", "c", 200, "oil", "left", "right", 1)
SOME = ("some", "d", 0, "rice", "left", "")
SWAP = ("swap", "e", 250, "left", "right")
COUNT = ("count", "f", 250, "oil", "left", 3, "ann")
LOOK = ("look", "g", 250, "oil", "left")
CARRIED = (COME, GO, MOVE, SOME)
SEEN = (SWAP, COUNT, LOOK)
EMPTY = start(PLACES, GOODS)


def done(state, deeds):
    """The state behind the deeds, those that are refused left out."""
    for deed in deeds:
        try:
            state = state_behind(state, deed)
        except CountError:
            pass
    return state


def names_of(many):
    return ["".join(letters) for letters in itertools.product("abcdefgh", repeat=2)][:many]


def many_looks(many, moment=500):
    return [("look", name, moment, "oil", "left") for name in names_of(many)]


def entering(state, entries):
    for entry in entries:
        state = entered(state, entry)
    return state


class Log:
    """The points 27 to 29, word by word, over a list of all forms and a list of all names taken back."""

    def __init__(self):
        self.forms = []
        self.backs = []
        self.closed = -1
        self.mode = None

    def stands(self):
        found = {}
        for entry, moment in self.forms:
            forms = [form for form in self.forms if form[0][1] == entry[1]]
            if len(forms) == 1 and entry[1] not in self.backs:
                found[entry[1]] = (entry, moment)
        return found

    def shut(self):
        return {name: form for name, form in self.stands().items() if form[1] // 100 <= self.closed}

    def try_out(self, row, rows):
        ahead = self.shut()
        rows.append(row)
        if self.shut() != ahead:
            rows.pop()
            return Closed
        if len(rows) > 60 or len(self.stands()) > 30:
            rows.pop()
            return TooMany
        return None

    def do(self, deed):
        """Does the deed, and tells the class of its refusal, None where it isn't refused."""
        if deed[0] == "enter":
            entry, moment = deed[1], deed[1][2]
            if any(form[0] == entry for form in self.forms):
                return None
            if moment // 100 <= self.closed and self.mode == "up" and entry[0] in ("come", "go", "move", "some"):
                moment = 100 * (self.closed + 1)
                if moment > 9999:
                    return Closed
            return self.try_out((entry, moment), self.forms)
        if deed[0] == "back":
            return None if deed[1] in self.backs else self.try_out(deed[1], self.backs)
        if deed[1] <= self.closed:
            return NoDay
        self.closed, self.mode = deed[1:]
        return None

    def state(self, places, goods):
        closed = None if self.closed == -1 else self.closed
        return (places, goods, tuple(sorted(self.forms)), tuple(sorted(self.backs)), closed, self.mode)


class StartTest(unittest.TestCase):
    def test_a_state_without_anything(self):
        self.assertEqual(EMPTY, (PLACES, GOODS, (), (), None, None))
        self.assertEqual(start(["right", "left", "right"], ("rice", "oil")), EMPTY)
        self.assertEqual(house_now(EMPTY), (PLACES, GOODS, ()))
        self.assertEqual(late_ones(EMPTY), [])

    def test_refused_as_a_house_is(self):
        for thing in whatever():
            if not isinstance(thing, (list, tuple)) or thing == () or not all(is_name(part) for part in thing):
                with self.subTest(thing=str(thing)[:50]):
                    self.assertRaises(NoHouse, start, thing, GOODS)
                    self.assertRaises(NoHouse, start, PLACES, thing)
            self.assertRaises(NoHouse, start, ["left", thing], GOODS)
            self.assertRaises(NoHouse, start, PLACES, ["oil", thing])
        self.assertRaises(NoHouse, start, list("abcdefg"), GOODS)
        self.assertRaises(NoHouse, start, PLACES, list("abcd"))
        self.assertEqual(start(list("abcdef"), list("abc"))[:2], (tuple("abcdef"), tuple("abc")))

    def test_what_is_handed_in_is_copied(self):
        places, goods = ["right", "left"], ["rice", "oil"]
        state = start(places, goods)
        self.assertEqual((places, goods), (["right", "left"], ["rice", "oil"]))
        places.clear()
        goods.append("salt")
        self.assertEqual(state, EMPTY)


class EnteredTest(unittest.TestCase):
    def test_forms_rise_and_stand(self):
        state = entering(EMPTY, [LOOK, GO, COME])
        self.assertEqual(state, (PLACES, GOODS, ((COME, 250), (GO, 299), (LOOK, 250)), (), None, None))
        self.assertEqual(house_now(state), (PLACES, GOODS, (COME, LOOK, GO)))
        self.assertEqual(late_ones(state), [])

    def test_the_very_same_entry_twice(self):
        state = entered(EMPTY, COME)
        self.assertEqual(entered(state, COME), state)
        self.assertEqual(entered(state, tuple(list(COME))), state)

    def test_two_unlike_entries_of_one_name_both_do_not_stand(self):
        other = ("come", "a", 250, "oil", "left", 3, 1)
        state = entering(EMPTY, [COME, GO, other])
        self.assertEqual(state[2], ((other, 250), (COME, 250), (GO, 299)))
        self.assertEqual(house_now(state)[2], (GO,))
        third = ("look", "a", 1, "oil", "left")
        self.assertEqual(house_now(entered(state, third))[2], (GO,))

    def test_what_is_no_entry_of_the_places_and_goods(self):
        wrong = whatever() + [
            list(COME), COME[:-1], COME + (1,), ("look", "a", 1, "salt", "left"), ("look", "a", 1, "oil", "yard"),
            ("swap", "a", 1, "left", "yard"), ("some", "a", 1, "oil", "yard", ""), ("move", "a", 1, "oil", "left", "", 1),
            ("look", "a", 10000, "oil", "left"), ("look", "a", True, "oil", "left"),
            ("come", "a", 250, "oil", "left", True, 2), ("count", "a", 1, "oil", "left", False, "ann"),
        ]
        for state in (EMPTY, entered(EMPTY, COME), closed_by(EMPTY, 99, "up"), closed_by(EMPTY, 99, "refuse")):
            for thing in wrong:
                with self.subTest(thing=str(thing)[:60]):
                    self.assertRaises(NoEntry, entered, state, thing)

    def test_an_open_day(self):
        for mode in ("refuse", "up"):
            state = closed_by(EMPTY, 1, mode)
            for entry in CARRIED[:3] + SEEN:
                later = entered(state, entry)
                self.assertEqual(later[2], ((entry, entry[2]),))
                self.assertEqual(late_ones(later), [])

    def test_a_closed_day_refuses(self):
        for day in (2, 3, 99):
            state = closed_by(EMPTY, day, "refuse")
            for entry in CARRIED + SEEN:
                with self.subTest(day=day, entry=entry):
                    self.assertRaises(Closed, entered, state, entry)

    def test_a_closed_day_takes_up(self):
        for day in (2, 3, 98):
            state = closed_by(EMPTY, day, "up")
            for entry in CARRIED:
                later = entered(state, entry)
                moment = day * 100 + 100
                self.assertEqual(later[2], ((entry, moment),))
                self.assertEqual(house_now(later)[2], (entry[:2] + (moment,) + entry[3:],))
                self.assertEqual(late_ones(later), [(entry[1], entry[2], moment)])

    def test_a_look_a_count_and_a_swap_are_not_taken_up(self):
        for day in (2, 99):
            state = closed_by(EMPTY, day, "up")
            for entry in SEEN:
                self.assertRaises(Closed, entered, state, entry)

    def test_behind_the_last_day_there_is_none(self):
        state = closed_by(EMPTY, 99, "up")
        for entry in CARRIED:
            self.assertRaises(Closed, entered, state, entry)
        # Also where it would not stand, as its name is taken back, or it is not alone.
        backed = closed_by(taken_back(EMPTY, "a"), 99, "up")
        self.assertRaises(Closed, entered, backed, COME)
        two = closed_by(entering(EMPTY, [COME, ("go", "a", 1, "oil", "left", 1)]), 99, "up")
        self.assertRaises(Closed, entered, two, ("go", "a", 2, "oil", "left", 1))

    def test_what_does_not_stand_may_be_of_a_closed_day(self):
        for mode in ("refuse", "up"):
            state = closed_by(taken_back(EMPTY, "f"), 2, mode)
            self.assertEqual(entered(state, COUNT)[2], ((COUNT, 250),))
        state = closed_by(taken_back(EMPTY, "a"), 99, "refuse")
        self.assertEqual(entered(state, COME)[2], ((COME, 250),))
        self.assertEqual(house_now(entered(state, COME))[2], ())
        state = closed_by(taken_back(EMPTY, "a"), 2, "up")
        self.assertEqual(entered(state, COME)[2], ((COME, 300),))
        unlike = entering(EMPTY, [("look", "f", 900, "oil", "left"), ("look", "f", 901, "oil", "left")])
        self.assertEqual(len(entered(closed_by(unlike, 5, "refuse"), COUNT)[2]), 3)
        # It makes another one not stand, yet none of a closed day.
        single = closed_by(entered(EMPTY, ("look", "f", 900, "oil", "left")), 5, "refuse")
        self.assertEqual(house_now(entered(single, COUNT))[2], ())

    def test_the_very_same_entry_of_a_closed_day(self):
        for mode in ("refuse", "up"):
            state = closed_by(entered(EMPTY, COME), 99, mode)
            self.assertEqual(entered(state, COME), state)
        state = entered(closed_by(EMPTY, 2, "up"), COME)
        self.assertEqual(entered(state, COME), state)
        later = closed_by(state, 50, "up")
        self.assertEqual(entered(later, COME), later)
        self.assertEqual(late_ones(later), [("a", 250, 300)])

    def test_one_that_would_make_an_entry_of_a_closed_day_not_stand(self):
        for mode in ("refuse", "up"):
            state = closed_by(entered(EMPTY, COUNT), 2, mode)
            for moment in (0, 250, 300, 9999):
                self.assertRaises(Closed, entered, state, ("go", "f", moment, "oil", "left", 1))
                self.assertRaises(Closed, entered, state, ("look", "f", moment, "oil", "left"))
        # What was taken up stands in the open day, as long as that isn't closed as well.
        state = entered(closed_by(EMPTY, 2, "up"), COME)
        other = ("look", "a", 400, "oil", "left")
        self.assertEqual(house_now(entered(state, other))[2], ())
        self.assertRaises(Closed, entered, closed_by(state, 3, "refuse"), other)
        self.assertRaises(Closed, taken_back, closed_by(state, 3, "refuse"), "a")

    def test_days_at_their_edges(self):
        last, first = ("go", "a", 299, "oil", "left", 1), ("go", "a", 300, "oil", "left", 1)
        state = closed_by(EMPTY, 2, "refuse")
        self.assertRaises(Closed, entered, state, last)
        self.assertEqual(house_now(entered(state, first))[2], (first,))
        state = closed_by(EMPTY, 2, "up")
        self.assertEqual(entered(state, last)[2], ((last, 300),))
        self.assertEqual(entered(state, first)[2], ((first, 300),))
        state = closed_by(EMPTY, 0, "up")
        zero = ("go", "a", 0, "oil", "left", 1)
        self.assertEqual(entered(state, zero)[2], ((zero, 100),))
        self.assertEqual(late_ones(entered(state, zero)), [("a", 0, 100)])
        self.assertRaises(Closed, entered, closed_by(EMPTY, 98, "refuse"), ("go", "a", 9899, "oil", "left", 1))
        late = ("go", "a", 9900, "oil", "left", 1)
        self.assertEqual(entered(closed_by(EMPTY, 98, "refuse"), late)[2], ((late, 9900),))

    def test_thirty_stand(self):
        state = entering(EMPTY, many_looks(30))
        self.assertEqual(house_now(state), house_of(PLACES, GOODS, many_looks(30)))
        new = ("look", "zz", 1, "oil", "left")
        self.assertRaises(TooMany, entered, state, new)
        self.assertEqual(entered(state, many_looks(30)[4]), state)
        # What does not stand is none too many.
        self.assertEqual(len(entered(state, ("look", "aa", 1, "oil", "left"))[2]), 31)
        self.assertEqual(len(entered(taken_back(state, "zz"), new)[2]), 31)
        self.assertEqual(len(house_now(entered(taken_back(state, "ab"), new))[2]), 30)

    def test_sixty_forms(self):
        pairs = [("look", name, moment, "oil", "left") for name in names_of(30) for moment in (1, 2)]
        state = entering(EMPTY, pairs)
        self.assertEqual((len(state[2]), house_now(state)[2]), (60, ()))
        for entry in (("look", "zz", 1, "oil", "left"), ("look", "aa", 3, "oil", "left")):
            self.assertRaises(TooMany, entered, state, entry)
        self.assertRaises(TooMany, entered, taken_back(state, "zz"), ("look", "zz", 1, "oil", "left"))
        self.assertEqual(entered(state, pairs[7]), state)

    def test_the_order_of_refusals(self):
        full = closed_by(entering(EMPTY, many_looks(30)), 3, "refuse")
        self.assertRaises(Closed, entered, full, ("look", "zz", 1, "oil", "left"))
        self.assertRaises(TooMany, entered, full, ("look", "zz", 400, "oil", "left"))
        self.assertRaises(NoEntry, entered, full, ("look", "zz", 1, "oil", "yard"))
        pairs = [("look", name, moment, "oil", "left") for name in names_of(29) for moment in (1, 2)]
        state = closed_by(entering(EMPTY, pairs + [("look", "yy", 1, "oil", "left"), LOOK]), 2, "refuse")
        self.assertEqual(len(state[2]), 60)
        self.assertRaises(Closed, entered, state, COME)
        self.assertRaises(Closed, entered, state, ("look", "yy", 900, "oil", "left"))
        self.assertRaises(TooMany, entered, state, ("look", "zz", 900, "oil", "left"))
        self.assertRaises(TooMany, entered, state, ("look", "aa", 900, "oil", "left"))
        self.assertRaises(Closed, entered, closed_by(state, 99, "up"), GO)
        self.assertRaises(Closed, entered, closed_by(state, 99, "up"), ("go", "aa", 900, "oil", "left", 1))


class TakenBackTest(unittest.TestCase):
    def test_a_name_is_taken_back(self):
        state = taken_back(entering(EMPTY, [COME, GO]), "a")
        self.assertEqual(state, (PLACES, GOODS, ((COME, 250), (GO, 299)), ("a",), None, None))
        self.assertEqual(house_now(state)[2], (GO,))
        self.assertEqual(taken_back(state, "a"), state)
        self.assertEqual(taken_back(taken_back(state, "c"), "b")[3], ("a", "b", "c"))
        self.assertEqual(entered(state, COME), state)

    def test_ahead_of_its_entry(self):
        state = entered(taken_back(EMPTY, "a"), COME)
        self.assertEqual(house_now(state)[2], ())
        self.assertEqual(state, taken_back(entered(EMPTY, COME), "a"))

    def test_a_late_one_taken_back_is_late_no_more(self):
        state = entering(closed_by(EMPTY, 2, "up"), [COME, GO])
        self.assertEqual(late_ones(state), [("a", 250, 300), ("b", 299, 300)])
        self.assertEqual(late_ones(taken_back(state, "a")), [("b", 299, 300)])
        self.assertEqual(late_ones(entered(state, ("go", "b", 700, "oil", "left", 1))), [("a", 250, 300)])

    def test_no_name(self):
        for state in (EMPTY, closed_by(entered(EMPTY, COME), 99, "up")):
            for thing in whatever() + [COME, "-", "a ", " a"]:
                with self.subTest(thing=str(thing)[:60]):
                    self.assertRaises(NoName, taken_back, state, thing)
        self.assertEqual(taken_back(EMPTY, "abcdefgh")[3], ("abcdefgh",))

    def test_a_closed_day(self):
        for mode in ("refuse", "up"):
            state = closed_by(entering(EMPTY, [COME, ("go", "z", 300, "oil", "left", 1)]), 2, mode)
            self.assertRaises(Closed, taken_back, state, "a")
            self.assertEqual(house_now(taken_back(state, "z"))[2], (COME,))
            self.assertEqual(taken_back(state, "zz")[3], ("zz",))
        two = closed_by(entering(EMPTY, [COME, ("go", "a", 1, "oil", "left", 1)]), 2, "refuse")
        self.assertEqual(taken_back(two, "a")[3], ("a",))
        backed = closed_by(taken_back(entered(EMPTY, COME), "a"), 2, "refuse")
        self.assertEqual(taken_back(backed, "a"), backed)

    def test_sixty_backs(self):
        state = entered(EMPTY, ("look", "yy", 1, "oil", "left"))
        for name in names_of(60):
            state = taken_back(state, name)
        self.assertEqual(state[3], tuple(names_of(60)))
        self.assertRaises(TooMany, taken_back, state, "zz")
        self.assertRaises(TooMany, taken_back, state, "yy")
        self.assertEqual(taken_back(state, "aa"), state)
        self.assertRaises(NoName, taken_back, state, "")
        self.assertRaises(Closed, taken_back, closed_by(state, 0, "up"), "yy")
        self.assertRaises(TooMany, taken_back, closed_by(state, 0, "up"), "zz")


class ClosedByTest(unittest.TestCase):
    def test_days(self):
        state = entered(EMPTY, COME)
        self.assertEqual(closed_by(state, 0, "up"), state[:4] + (0, "up"))
        self.assertEqual(closed_by(state, 99, "refuse"), state[:4] + (99, "refuse"))
        self.assertEqual(closed_by(closed_by(state, 3, "up"), 4, "refuse"), state[:4] + (4, "refuse"))
        self.assertEqual(closed_by(closed_by(state, 3, "refuse"), 9, "up"), state[:4] + (9, "up"))

    def test_none_behind_the_closed_one(self):
        for closed in (0, 3, 99):
            state = closed_by(EMPTY, closed, "up")
            for day in {0, closed - 1, closed}:
                for mode in ("up", "refuse"):
                    self.assertRaises(NoDay, closed_by, state, day, mode)

    def test_no_day_and_no_mode(self):
        for thing in whatever() + [100, "1", (1,), [1]]:
            with self.subTest(thing=str(thing)[:60]):
                if type(thing) is not int or not 0 <= thing <= 99:
                    self.assertRaises(NoDay, closed_by, EMPTY, thing, "up")
                    self.assertRaises(NoDay, closed_by, EMPTY, thing, thing)
                self.assertRaises(NoDay, closed_by, EMPTY, 3, thing)
        for mode in ("Up", "up ", "refus", "refused", ("up",), ["refuse"], "ref"):
            self.assertRaises(NoDay, closed_by, EMPTY, 3, mode)

    def test_what_stands_is_the_same(self):
        state = entering(EMPTY, [COME, LOOK, SOME])
        self.assertEqual(house_now(closed_by(state, 50, "up")), house_now(state))


class DrawnDeedsTest(unittest.TestCase):
    def test_step_by_step_as_the_words_say(self):
        seen = {}
        for seed in range(150):
            places, goods, deeds = drawn_deeds(seed)
            state, log = start(places, goods), Log()
            for deed in deeds:
                expected = log.do(deed)
                seen[expected] = seen.get(expected, 0) + 1
                if expected is None:
                    state = state_behind(state, deed)
                else:
                    self.assertRaises(expected, state_behind, state, deed)
                self.assertEqual(state, log.state(places, goods))
            stands = log.stands().values()
            self.assertEqual(house_now(state), house_of(places, goods, [e[:2] + (m,) + e[3:] for e, m in stands]))
            self.assertEqual(late_ones(state), sorted((e[1], e[2], m) for e, m in stands if e[2] != m))
            seen["late"] = seen.get("late", 0) + len(late_ones(state))
        for key in (None, Closed, NoDay, "late"):
            self.assertGreater(seen[key], 30)

    def test_too_many_step_by_step(self):
        seen = 0
        for seed in range(6):
            places, goods, deeds = drawn_deeds(seed, 400, False)
            state, log = start(places, goods), Log()
            for deed in deeds:
                expected = log.do(deed)
                if expected is None:
                    state = state_behind(state, deed)
                else:
                    seen += 1
                    self.assertRaises(expected, state_behind, state, deed)
                self.assertEqual(state, log.state(places, goods))
        self.assertGreater(seen, 100)

    def test_whatever_the_order_and_however_often(self):
        for seed in range(60):
            places, goods, deeds = drawn_deeds(seed, 30, False)
            first = done(start(places, goods), deeds)
            draw = random.Random(seed)
            for turn in range(4):
                mixed = deeds + draw.choices(deeds, k=turn * 5)
                draw.shuffle(mixed)
                state = start(places, goods)
                for deed in mixed:
                    state = state_behind(state, deed)
                self.assertEqual(state, first)

    def test_closed_days_never_change(self):
        for seed in range(80):
            places, goods, deeds = drawn_deeds(seed, 60)
            state = start(places, goods)
            for deed in deeds:
                later = done(state, [deed])
                closed = -1 if state[4] is None else state[4]
                for one, other in ((state, later), (later, state)):
                    shut = [entry for entry in house_now(one)[2] if entry[2] // 100 <= closed]
                    self.assertEqual(shut, [entry for entry in house_now(other)[2] if entry[2] // 100 <= closed])
                state = later

    def test_what_is_handed_in_stays_and_what_is_told_is_the_askers(self):
        for seed in range(20):
            places, goods, deeds = drawn_deeds(seed)
            state = done(start(places, goods), deeds)
            kept = copy.deepcopy(state)
            done(state, [("enter", LOOK), ("back", "zz"), ("close", 80, "up"), ("enter", COME)])
            first = late_ones(state)
            self.assertIs(type(first), list)
            told = list(first)
            first.append("more")
            self.assertEqual(late_ones(state), told)
            house_now(state)
            self.assertEqual(state, kept)
            self.assertTrue(all(type(part) is tuple for part in state[:4]))


if __name__ == "__main__":
    unittest.main()
