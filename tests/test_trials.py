"""Points 14 to 16: what a trial is, its leaves, its runs with a taker."""

import copy
import random
import unittest

from mumtrial.errors import NoMatch, NoTaker, NoTrial
from mumtrial.keeping import keeps
from mumtrial.machines import Machine
from mumtrial.trials import blames, leaves, need_trial
from mumtrial.walks import is_walk
from tests import plain
from tests.samples import model_parts, taker_parts, two_rounds, words_for

HUSH = ("hush",)
STILL = ("still",)
A = ("ask", "a")
B = ("ask", "b")
X = ("say", "x")
Y = ("say", "y")
END = ("end",)
BLAME = ("blame",)
SAYS = [["w"], ["w", "x"], ["w", "x", "y"], ["w", "x", "y", "z"]]


def machine_of(asks, says):
    return Machine(asks, says, ["r"], [])


TWO = machine_of(["a", "b"], ["x", "y"])


def tell(ask, behind, *says, words="xy"):
    return ("tell", ask, behind, tuple(zip(words, says)))


def wait(*parts, words="xy"):
    return ("wait", tuple(zip(words, parts[:-1])), parts[-1])


def way_of(machine, trial):
    """The way with which the trial is refused, the same by each that refuses it; None where it is one."""
    ways = []
    taker = Machine(machine.asks(), machine.says(), ["r"], [("r", ("ask", ask), "r") for ask in machine.asks()])
    for ask in (lambda: need_trial(machine, trial), lambda: leaves(machine, trial), lambda: blames(machine, trial, taker)):
        try:
            ask()
            ways.append(None)
        except NoTrial as error:
            ways.append(error.way)
    if ways != ways[:1] * 3:
        raise AssertionError(ways)
    return ways[0]


def grown(says, inner, leaf=END):
    """A trial of just so many tells and waits by turns, as flat as can be, all others leaves."""
    levels = [1]
    while sum(levels) < inner:
        levels.append(min(levels[-1] * (len(says) + 1), inner - sum(levels)))
    row = []
    for count in reversed(levels):
        parts = row + [leaf] * (count * (len(says) + 1) - len(row))
        row = []
        for number in range(count):
            mine = parts[number * (len(says) + 1):(number + 1) * (len(says) + 1)]
            if number % 2:
                row.append(wait(*mine, words=says))
            else:
                row.append(tell("a", *mine, words=says))
    return row[0]


def chained(count, innermost=END, by=0):
    """So many trials within one another, the innermost with them, each the part of this number of the next."""
    trial = innermost
    for turn in range(count - 1):
        parts = [END, END, END]
        parts[by] = trial
        trial = tell("a", *parts) if turn % 2 else wait(*parts)
    return trial


class WhatATrialIs(unittest.TestCase):
    def test_each_of_the_four_kinds(self):
        for trial in (END, BLAME, tell("a", END, BLAME, END), tell("b", BLAME, END, END), wait(END, END, BLAME),
                      tell("a", wait(END, BLAME, END), tell("b", END, END, END), BLAME)):
            self.assertIsNone(need_trial(TWO, trial))
            self.assertIsNone(way_of(TWO, trial))

    def test_an_ask_that_is_none(self):
        for ask in ("c", "x", "", "A", "a ", "end", "tell", "\n"):
            self.assertEqual(way_of(TWO, tell(ask, END, END, END)), ())
            self.assertEqual(way_of(TWO, tell("a", END, END, tell(ask, END, END, END))), (2,))

    def test_says_left_out_put_in_exchanged_or_in_another_order(self):
        for words in ("x", "y", "", "xyz", "xyx", "yx", "xz", "xx", "zxy", "ab"):
            pairs = tuple((word, END) for word in words)
            self.assertEqual(way_of(TWO, ("wait", pairs, END)), (), words)
            self.assertEqual(way_of(TWO, ("tell", "a", END, pairs)), (), words)
            self.assertEqual(way_of(TWO, wait(END, ("tell", "a", END, pairs), END)), (1,), words)
            self.assertEqual(way_of(TWO, tell("b", ("wait", pairs, END), END, END)), (0,), words)

    def test_a_word_that_is_no_trial(self):
        for word in ("tell", "wait", "", "End", "end ", "blames", "a", "x", "hush", "\t"):
            self.assertEqual(way_of(TWO, (word,)), ())
            self.assertEqual(way_of(TWO, wait(END, END, (word,))), (2,))
            self.assertEqual(way_of(TWO, tell("a", (word,), END, END)), (0,))

    def test_by_the_machines_own_words_in_its_order(self):
        for asks in (["a"], ["b", "a"], ["b"]):
            for says in (["x"], ["x", "y"], ["y", "x"]):
                machine = machine_of(asks, says)
                self.assertEqual(way_of(machine, tell("a", END, END, END)), None if "a" in asks and says == ["x", "y"] else ())
                self.assertEqual(way_of(machine, wait(END, END, END)), None if says == ["x", "y"] else ())

    def test_the_first_way_of_several(self):
        bad = ("bad",)
        self.assertEqual(way_of(TWO, wait(END, bad, bad)), (1,))
        self.assertEqual(way_of(TWO, wait(END, wait(END, END, bad), bad)), (1, 2))
        self.assertEqual(way_of(TWO, wait(wait(END, END, bad), bad, bad)), (0, 2))
        self.assertEqual(way_of(TWO, tell("c", bad, END, bad)), ())
        self.assertEqual(way_of(TWO, tell("a", tell("c", bad, END, bad), bad, bad)), (0,))
        self.assertEqual(way_of(TWO, tell("a", END, tell("b", END, END, bad), wait(bad, END, END))), (1, 2))

    def test_the_parts_of_tell_and_of_wait_are_numbered(self):
        bad = ("bad",)
        for number in range(3):
            parts = [END, END, END]
            parts[number] = bad
            self.assertEqual(way_of(TWO, tell("a", *parts)), (number,))
            self.assertEqual(way_of(TWO, wait(*parts)), (number,))

    def test_just_eight_and_nine_within_one_another(self):
        for by in range(3):
            self.assertIsNone(way_of(TWO, chained(8, END, by)))
            self.assertIsNone(way_of(TWO, chained(8, BLAME, by)))
            self.assertEqual(way_of(TWO, chained(9, END, by)), ())
            self.assertEqual(way_of(TWO, chained(9, BLAME, by)), ())
            self.assertEqual(way_of(TWO, chained(8, ("bad",), by)), (by,) * 7)

    def test_just_a_thousand_and_a_thousand_and_one(self):
        thousand = grown(SAYS[1], 333)
        self.assertEqual(len(plain.all_within(thousand)), 1000)
        self.assertIsNone(way_of(machine_of(["a"], SAYS[1]), thousand))
        for says, inner in ((SAYS[3], 200), (SAYS[2], 250)):
            more = grown(says, inner)
            self.assertEqual(len(plain.all_within(more)), 1001)
            self.assertEqual(way_of(machine_of(["a"], says), more), ())
            self.assertIsNone(way_of(machine_of(["a"], says), grown(says, inner - 1)))
        self.assertEqual(way_of(machine_of(["a"], SAYS[1]), grown(SAYS[1], 334)), ())

    def test_too_many_go_ahead_of_what_is_not_so(self):
        machine = machine_of(["a"], SAYS[3])
        self.assertEqual(way_of(machine, grown(SAYS[3], 200, ("bad",))), ())
        self.assertNotEqual(way_of(machine, grown(SAYS[3], 199, ("bad",))), ())
        self.assertEqual(way_of(TWO, wait(("bad",), END, chained(8))), ())
        self.assertEqual(way_of(TWO, wait(("bad",), END, chained(7))), (0,))

    def test_chains_of_some_thousands(self):
        for count in (1000, 5000, 20000):
            for by in range(3):
                self.assertEqual(way_of(TWO, chained(count, END, by)), ())
                self.assertEqual(way_of(TWO, chained(count, ("bad",), by)), ())

    def test_a_tower_of_one_and_the_same_tuple(self):
        for leaf in (END, BLAME, ("bad",)):
            trial = leaf
            for storey in range(40):
                trial = wait(trial, trial, trial) if storey % 2 else tell("a", trial, trial, trial)
            self.assertEqual(way_of(TWO, trial), ())
        trial = END
        for storey in range(7):
            trial = tell("a", trial, trial, trial)
        self.assertEqual(way_of(TWO, trial), ())

    def test_a_very_broad_one(self):
        broad = ("wait", tuple(("x", END) for number in range(5000)), END)
        self.assertEqual(way_of(TWO, broad), ())
        broader = ("wait", tuple(("x", broad) for number in range(5000)), broad)
        self.assertEqual(way_of(TWO, broader), ())
        self.assertEqual(way_of(TWO, ("wait", tuple(("x", END) for number in range(998)), END)), ())
        self.assertEqual(way_of(TWO, wait(("wait", tuple(("x", END) for number in range(995)), END), END, END)), (0,))
        self.assertEqual(way_of(TWO, wait(("wait", tuple(("x", END) for number in range(996)), END), END, END)), ())

    def test_bent_trials_against_the_plain_words(self):
        ways = set()
        for seed in range(600):
            asks, says = words_for(seed)
            trial = random_trial(random.Random(seed), asks + ["c"] * (seed % 3 == 0), says, 4, seed % 4 == 0)
            way = plain.wrong_way(asks, says, trial)
            self.assertEqual(way_of(machine_of(asks, says), trial), way, trial)
            ways.add(way)
        self.assertGreater(len(ways), 8)
        self.assertIn(None, ways)


def random_trial(chance, asks, says, depth, bent=False):
    if depth == 0 or chance.random() < 0.2:
        return chance.choice([END, BLAME, END, BLAME, ("bad",)] if bent else [END, BLAME])
    words = list(says)
    if bent and chance.random() < 0.1:
        words = chance.choice([words[1:], words + ["x"], words[::-1]])
    parts = [random_trial(chance, asks, says, depth - 1, bent) for number in range(len(words) + 1)]
    if chance.random() < 0.5:
        return ("tell", chance.choice(asks), parts[0], tuple(zip(words, parts[1:])))
    return ("wait", tuple(zip(words, parts)), parts[-1])


class Leaves(unittest.TestCase):
    def test_in_the_order_of_their_ways(self):
        trial = tell("a", wait(BLAME, END, tell("b", END, BLAME, END)), END, wait(END, BLAME, BLAME))
        self.assertEqual(leaves(TWO, trial), [
            ((0, 0), [A, X], "blame"), ((0, 1), [A, Y], "end"), ((0, 2, 0), [A, HUSH, B], "end"),
            ((0, 2, 1), [A, HUSH, X], "blame"), ((0, 2, 2), [A, HUSH, Y], "end"), ((1,), [X], "end"),
            ((2, 0), [Y, X], "end"), ((2, 1), [Y, Y], "blame"), ((2, 2), [Y, HUSH], "blame")])

    def test_a_trial_that_is_a_leaf(self):
        self.assertEqual(leaves(TWO, END), [((), [], "end")])
        self.assertEqual(leaves(TWO, BLAME), [((), [], "blame")])

    def test_against_the_plain_words(self):
        for seed in range(200):
            asks, says = words_for(seed)
            trial = random_trial(random.Random(seed), asks, says, 4)
            expected = sorted((way, story, one[0]) for way, story, one in plain.all_within(trial) if len(one) == 1)
            self.assertEqual(leaves(machine_of(asks, says), trial), expected)

    def test_of_four_says(self):
        trial = wait(END, END, BLAME, END, END, words="wxyz")
        self.assertEqual(leaves(machine_of(["a"], SAYS[3]), trial), [
            ((0,), [("say", "w")], "end"), ((1,), [("say", "x")], "end"), ((2,), [("say", "y")], "blame"),
            ((3,), [("say", "z")], "end"), ((4,), [HUSH], "end")])

    def test_the_kinds_of_what_is_told(self):
        told = leaves(TWO, wait(END, END, BLAME))
        self.assertIs(type(told), list)
        for leaf in told:
            self.assertIs(type(leaf), tuple)
            self.assertEqual([type(thing) for thing in leaf], [tuple, list, str])

    def test_changed_lists_change_nothing_told_with_them_or_later(self):
        trial = tell("a", wait(BLAME, END, END), END, END)
        twin = copy.deepcopy(leaves(TWO, trial))
        told = leaves(TWO, trial)
        for number, leaf in enumerate(told):
            leaf[1].append(X)
            leaf[1].insert(0, Y)
            self.assertEqual(told[number + 1:], twin[number + 1:])
        told.clear()
        self.assertEqual(leaves(TWO, trial), twin)


class Runs(unittest.TestCase):
    def blamed(self, machine, trial):
        walk = blames(machine, trial, machine)
        if walk is not None:
            self.assertIs(type(walk), list)
            own = plain.Plain(machine.asks(), machine.says(), machine.rooms(), machine.doors())
            self.assertEqual(plain.run_end(own, trial, walk), "blame")
        return walk

    def taker(self, *doors, rooms=("p", "q", "r")):
        asked = [(room, sign, room) for room in rooms for sign in (A, B)
                 if not [door for door in doors if door[0] == room and door[1] in (sign, STILL)]]
        return Machine(["a", "b"], ["x", "y"], list(rooms), list(doors) + asked)

    def test_end_alone_and_blame_alone(self):
        self.assertIsNone(self.blamed(self.taker(), END))
        self.assertEqual(self.blamed(self.taker(), BLAME), [])
        self.assertEqual(self.blamed(self.taker(("p", STILL, "q")), BLAME), [])

    def test_at_tell(self):
        machine = self.taker(("p", A, "q"), ("p", X, "r"))
        self.assertEqual(self.blamed(machine, tell("a", BLAME, END, END)), [("p", A, "q")])
        self.assertEqual(self.blamed(machine, tell("a", END, BLAME, END)), [("p", X, "r")])
        self.assertIsNone(self.blamed(machine, tell("a", END, END, BLAME)))
        self.assertEqual(self.blamed(machine, tell("b", BLAME, END, END)), [("p", B, "p")])

    def test_no_silence_is_heard_at_tell(self):
        machine = self.taker(("p", A, "q"))
        self.assertIsNone(self.blamed(machine, tell("a", END, BLAME, BLAME)))

    def test_no_ask_is_told_at_wait(self):
        machine = self.taker(("p", A, "q"), ("q", X, "q"))
        self.assertIsNone(self.blamed(machine, wait(BLAME, BLAME, wait(BLAME, BLAME, END))))

    def test_silence_at_wait(self):
        machine = self.taker(("q", X, "r"), ("p", A, "q"))
        self.assertEqual(self.blamed(machine, wait(END, END, BLAME)), [("p", HUSH, "p")])
        self.assertIsNone(self.blamed(machine, wait(BLAME, BLAME, END)))
        self.assertIsNone(self.blamed(machine, tell("a", wait(END, BLAME, BLAME), END, END)))
        self.assertEqual(self.blamed(machine, tell("a", wait(BLAME, END, END), END, END)), [("p", A, "q"), ("q", X, "r")])
        self.assertEqual(self.blamed(machine, wait(END, END, tell("a", BLAME, END, END))), [("p", HUSH, "p"), ("p", A, "q")])

    def test_no_silence_where_a_still_door_leads_on(self):
        machine = self.taker(("p", STILL, "q"), ("q", X, "q"))
        self.assertIsNone(self.blamed(machine, wait(END, END, BLAME)))
        machine = self.taker(("p", STILL, "q"), ("p", STILL, "r"), ("q", X, "q"))
        self.assertEqual(self.blamed(machine, wait(END, END, BLAME)), [("p", STILL, "r"), ("r", HUSH, "r")])

    def test_still_doors_ahead_of_a_sign_and_between(self):
        machine = self.taker(("p", STILL, "q"), ("q", STILL, "r"), ("r", X, "p"))
        still = [("p", STILL, "q"), ("q", STILL, "r"), ("r", X, "p")]
        self.assertEqual(self.blamed(machine, wait(BLAME, END, END)), still)
        self.assertEqual(self.blamed(machine, wait(wait(BLAME, END, END), END, END)), still + still)

    def test_it_ends_at_blame_with_no_step_more(self):
        machine = self.taker(("p", A, "q"), ("q", STILL, "r"))
        self.assertEqual(self.blamed(machine, tell("a", BLAME, END, END)), [("p", A, "q")])

    def test_several_rooms_behind_one_sign(self):
        machine = self.taker(("p", A, "p"), ("p", A, "q"), ("p", A, "r"), ("r", Y, "r"), ("q", X, "q"))
        for part, room in ((wait(END, BLAME, END), "r"), (wait(BLAME, END, END), "q"), (wait(END, END, BLAME), "p")):
            walk = self.blamed(machine, tell("a", part, END, END))
            self.assertEqual((len(walk), walk[0]), (2, ("p", A, room)))

    def test_one_that_may_blame_and_one_that_may_not(self):
        model = Machine(["a", "b"], ["x", "y"], ["m"], [("m", A, "m"), ("m", B, "m")])
        trial = tell("a", wait(BLAME, BLAME, END), BLAME, BLAME)
        right, wrong = self.taker(), self.taker(("p", A, "q"), ("q", Y, "p"))
        self.assertIsNone(blames(model, trial, right))
        self.assertEqual(blames(model, trial, wrong), [("p", A, "q"), ("q", Y, "p")])
        self.assertEqual(keeps(model, wrong), ("fault", [A], Y))

    def test_against_runs_one_by_one(self):
        counts = {True: 0, False: 0}
        for seed in range(500):
            asks, says = words_for(seed)
            lists = taker_parts(seed, asks, says)
            model, taker = Machine(*model_parts(seed + 1, asks, says)), Machine(*lists)
            trial = random_trial(random.Random(seed), asks, says, 4)
            if seed % 2:
                trial = fewer_blames(random.Random(seed), trial)
            walk = blames(model, trial, taker)
            may = plain.run_blames(plain.Plain(*lists), trial)
            self.assertEqual(walk is not None, may, (lists, trial))
            counts[may] += 1
            if may:
                self.assertEqual(plain.run_end(plain.Plain(*lists), trial, walk), "blame")
                story = [sign for start, sign, goal in walk if sign != STILL]
                self.assertIs(is_walk(taker, story, walk), True)
                self.assertIn((story, "blame"), [leaf[1:] for leaf in leaves(model, trial)])
        self.assertGreater(min(counts.values()), 100)

    def test_a_big_trial_and_a_big_machine(self):
        says = SAYS[1]
        rooms = two_rounds(70, 71).rooms()
        doors = [(room, A, goal) for room in rooms[:10] for goal in rooms] + [(room, A, room) for room in rooms[10:]]
        machine = Machine(["a"], says, rooms, doors)
        self.assertIsNone(blames(machine, grown(says, 333), machine))
        self.assertEqual(blames(machine, tell("a", BLAME, END, END, words=says), machine)[0][:2], ("start", A))


def fewer_blames(chance, trial):
    """The same with most blames made ends."""
    if len(trial) == 1:
        return trial if chance.random() < 0.15 else END
    if trial[0] == "tell":
        return trial[:2] + (fewer_blames(chance, trial[2]), tuple((w, fewer_blames(chance, part)) for w, part in trial[3]))
    return ("wait", tuple((w, fewer_blames(chance, part)) for w, part in trial[1]), fewer_blames(chance, trial[2]))


class OrderOfRefusals(unittest.TestCase):
    def test_words_then_takers_then_trials(self):
        taker = Machine(["a"], ["x"], ["r"], [("r", A, "r")])
        none = Machine(["a"], ["x"], ["r", "s"], [("r", A, "r")])
        other = Machine(["b"], ["x"], ["r"], [])
        with self.assertRaises(NoMatch):
            blames(other, ("bad",), none)
        with self.assertRaises(NoMatch):
            blames(none, ("bad",), other)
        with self.assertRaises(NoTaker) as caught:
            blames(taker, ("bad",), none)
        self.assertEqual((caught.exception.room, caught.exception.ask), ("s", "a"))
        with self.assertRaises(NoTrial) as caught:
            blames(none, ("bad",), taker)
        self.assertEqual(caught.exception.way, ())

    def test_the_model_need_not_be_a_taker_nor_the_trial_of_its_making(self):
        model = Machine(["a"], ["x"], ["r"], [])
        taker = Machine(["a"], ["x"], ["r"], [("r", A, "r")])
        self.assertEqual(blames(model, ("tell", "a", BLAME, (("x", END),)), taker), [("r", A, "r")])

    def test_the_way_is_a_tuple(self):
        with self.assertRaises(NoTrial) as caught:
            need_trial(TWO, wait(END, wait(END, END, ("bad",)), END))
        self.assertIs(type(caught.exception.way), tuple)
        self.assertEqual([type(number) for number in caught.exception.way], [int, int])

    def test_a_refusal_changes_nothing(self):
        for turn in range(2):
            self.assertEqual(way_of(TWO, wait(END, END, ("bad",))), (2,))
            self.assertIsNone(way_of(TWO, wait(END, END, END)))


class OwnThings(unittest.TestCase):
    def test_a_changed_walk_changes_nothing_told_later(self):
        taker = Machine(["a"], ["x"], ["r"], [("r", A, "r")])
        trial = ("tell", "a", BLAME, (("x", END),))
        for turn in range(3):
            walk = blames(taker, trial, taker)
            self.assertEqual(walk, [("r", A, "r")])
            walk.clear()


if __name__ == "__main__":
    unittest.main()
