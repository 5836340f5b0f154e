"""Point 19, and point 3 of made trials: how many may blame a taker, and the first of them."""

import random
import unittest

from mumtrial.blamers import first_blamer, how_many_blame
from mumtrial.errors import NoDepth, NoMatch, NoTaker
from mumtrial.keeping import keeps
from mumtrial.machines import Machine
from mumtrial.made import how_many_made, made_by, number_of
from mumtrial.trials import blames
from tests.samples import model_parts, taker_parts, two_rounds, words_for

HUSH = ("hush",)
STILL = ("still",)
A = ("ask", "a")
B = ("ask", "b")
X = ("say", "x")
Y = ("say", "y")
END = ("end",)
BLAME = ("blame",)
FAR = (-1, 5, -2, 6, 100, 10 ** 30, -10 ** 30)


def silent():
    return Machine(["a"], ["x"], ["m"], [("m", A, "m")])


def late(count):
    """Keeps to silent() but for x behind so many asks."""
    rooms = ["r" + "abcdefg"[number] for number in range(count + 1)]
    doors = [(start, A, goal) for start, goal in zip(rooms, rooms[1:] + rooms[-1:])]
    return Machine(["a"], ["x"], rooms, doors + [(rooms[-1], X, rooms[-1])])


def two_words(*doors, asks=("a",)):
    return Machine(list(asks), ["x", "y"], ["p", "q"], list(doors))


def pairs(count, bent=False):
    """Pairs of a model and a taker of the same words; bent ones are takers with one door led elsewhere."""
    for seed in range(count):
        asks, says = words_for(seed)
        if not bent:
            yield seed, Machine(*model_parts(2 * seed, asks, says)), Machine(*taker_parts(7 * seed + 5, asks, says))
            continue
        lists = taker_parts(seed, asks, says, 6)
        chance = random.Random(seed)
        doors = [door for door in lists[3] if door[1] != STILL]
        start, sign, goal = chance.choice(doors)
        taken = [door for door in lists[3] if door != (start, sign, goal)] + [(start, sign, chance.choice(lists[2]))]
        yield seed, Machine(*lists), Machine(*lists[:3], list(dict.fromkeys(taken)))


class HowManyAndTheFirst(unittest.TestCase):
    def test_a_fault_behind_one_ask(self):
        # Of depth 2 there are end, the tells and the waits; x behind a is to blame in the tells of a with a tell or a
        # wait behind it.
        model, machine = silent(), late(1)
        self.assertEqual(how_many_made(model, 2), 1 + 3 + 3)
        self.assertEqual(how_many_blame(model, 2, machine), 2)
        self.assertEqual(first_blamer(model, 2, machine), 2)
        self.assertEqual(made_by(model, 2, 2), ("tell", "a", ("tell", "a", END, (("x", BLAME),)), (("x", BLAME),)))
        self.assertEqual([how_many_blame(model, 1, machine), first_blamer(model, 1, machine)], [0, None])

    def test_at_once(self):
        model, machine = silent(), late(0)
        self.assertEqual(how_many_blame(model, 1, machine), 2)
        self.assertEqual(first_blamer(model, 1, machine), 1)
        self.assertEqual([how_many_blame(model, 0, machine), first_blamer(model, 0, machine)], [0, None])
        for depth in range(1, 5):
            self.assertEqual(how_many_blame(model, depth, machine), how_many_made(model, depth) - 1)
            self.assertEqual(first_blamer(model, depth, machine), 1)

    def test_by_silence_at_a_wait_alone(self):
        model = Machine(["a"], ["x"], ["m"], [("m", A, "m"), ("m", X, "m")])
        machine = silent()
        self.assertEqual([how_many_blame(model, 1, machine), first_blamer(model, 1, machine)], [1, 2])
        self.assertEqual(made_by(model, 1, 2), ("wait", (("x", END),), BLAME))

    def test_of_several_parts_the_last_that_may_blame(self):
        # Behind x and behind y alike a fault lies one sign on: the least number has all but the last part at 0.
        model = Machine(["a"], ["x", "y"], ["p", "q"], [("p", X, "q"), ("p", Y, "q"), ("p", A, "p"), ("q", A, "q")])
        machine = Machine(["a"], ["x", "y"], ["p", "q"], [
            ("p", X, "q"), ("p", Y, "q"), ("p", A, "p"), ("q", A, "q"), ("q", X, "q")])
        self.assertEqual(keeps(model, machine), ("fault", [X], X))
        number = first_blamer(model, 2, machine)
        trial = made_by(model, 2, number)
        self.assertEqual(trial[:2] + (trial[2],) + (trial[3][0],), ("tell", "a", END, ("x", END)))
        self.assertNotEqual(trial[3][1], ("y", END))
        self.assertEqual(number, 1 + 1)

    def test_one_that_keeps(self):
        for depth in range(5):
            self.assertEqual(how_many_blame(silent(), depth, silent()), 0)
            self.assertIsNone(first_blamer(silent(), depth, silent()))
        kept = 0
        for seed, model, taker in pairs(200):
            if keeps(model, taker)[0] == "keeps":
                kept += 1
                for depth in range(5):
                    self.assertEqual(how_many_blame(model, depth, taker), 0)
                    self.assertIsNone(first_blamer(model, depth, taker))
        self.assertGreater(kept, 20)

    def test_against_each_made_trial(self):
        seen = set()
        for seed, model, taker in list(pairs(150)) + list(pairs(150, True)):
            for depth in range(4):
                count = how_many_made(model, depth)
                if count > 900:
                    continue
                may = [number for number in range(count) if blames(model, made_by(model, depth, number), taker) is not None]
                self.assertEqual(how_many_blame(model, depth, taker), len(may), (seed, depth))
                self.assertEqual(first_blamer(model, depth, taker), min(may, default=None), (seed, depth))
                seen.add((depth, may != []))
        self.assertEqual(seen, {(0, False), (1, False), (1, True), (2, False), (2, True), (3, False), (3, True)})

    def test_the_first_of_big_depths_may_blame_and_smaller_ones_may_not(self):
        chance = random.Random(1)
        found = 0
        for seed, model, taker in list(pairs(60)) + list(pairs(100, True)):
            for depth in (3, 4):
                first = first_blamer(model, depth, taker)
                self.assertEqual(first is None, how_many_blame(model, depth, taker) == 0)
                if first is None:
                    continue
                found += 1
                trial = made_by(model, depth, first)
                self.assertIsNotNone(blames(model, trial, taker))
                for number in {chance.randrange(first) for turn in range(3)} | {first - 1}:
                    self.assertIsNone(blames(model, made_by(model, depth, number), taker))
        self.assertGreater(found, 60)

    def test_of_each_depth_those_of_the_one_ahead_and_more(self):
        for seed, model, taker in pairs(60, True):
            counts = [how_many_blame(model, depth, taker) for depth in range(5)]
            self.assertEqual(counts, sorted(counts))
            self.assertTrue(all(0 <= count < how_many_made(model, depth) for depth, count in enumerate(counts)))
            for depth in range(4):
                first = first_blamer(model, depth, taker)
                if first is not None:
                    deeper = number_of(model, depth + 1, made_by(model, depth, first))
                    self.assertLessEqual(first_blamer(model, depth + 1, taker), deeper)

    def test_exactly_however_many(self):
        # Whatever but end is told or waited for at once, the machine says w, which the model never does.
        asks = [("m", ("ask", ask), "m") for ask in "abcd"]
        model = Machine(list("abcd"), list("wxyz"), ["m"], asks + [("m", ("say", say), "m") for say in "xyz"])
        machine = Machine(list("abcd"), list("wxyz"), ["m"], asks + [("m", ("say", "w"), "m")])
        for depth in range(1, 5):
            self.assertEqual(how_many_blame(model, depth, machine), how_many_made(model, depth) - 1)
        self.assertGreater(how_many_made(model, 4), 10 ** 40)

    def test_their_kinds(self):
        self.assertIs(type(how_many_blame(silent(), 2, late(1))), int)
        self.assertIs(type(how_many_blame(silent(), 2, silent())), int)
        self.assertIs(type(first_blamer(silent(), 2, late(1))), int)


class TheWhole(unittest.TestCase):
    """Point 3: as deep as the least fault has signs, and none less deep."""

    def test_faults_of_one_to_five_signs(self):
        for asks in range(5):
            model, machine = silent(), late(asks)
            kind, story, sign = keeps(model, machine)
            signs = len(story) + 1
            self.assertEqual(signs, asks + 1)
            for depth in range(5):
                self.assertEqual(how_many_blame(model, depth, machine) > 0, depth >= signs)
                self.assertEqual(first_blamer(model, depth, machine) is not None, depth >= signs)

    def test_faults_of_all_kinds(self):
        lengths = {}
        for seed, model, taker in list(pairs(300)) + list(pairs(400, True)):
            told = keeps(model, taker)
            signs = len(told[1]) + 1 if told[0] == "fault" else 9
            lengths[signs] = lengths.get(signs, 0) + 1
            for depth in range(5):
                self.assertEqual(how_many_blame(model, depth, taker) > 0, depth >= signs, (seed, told))
                self.assertEqual(first_blamer(model, depth, taker) is not None, depth >= signs, (seed, told))
        self.assertLessEqual({1, 2, 3, 4, 9}, set(lengths))


class Refusals(unittest.TestCase):
    def refused(self, error, M, d, I):
        for ask in (how_many_blame, first_blamer):
            with self.assertRaises(error):
                ask(M, d, I)

    def test_each(self):
        for depth in FAR:
            self.refused(NoDepth, silent(), depth, late(1))
        self.refused(NoMatch, silent(), 2, two_words(("p", A, "p"), ("q", A, "q")))
        self.refused(NoTaker, silent(), 2, Machine(["a"], ["x"], ["m"], []))

    def test_the_order_of_refusals(self):
        for depth in FAR:
            self.refused(NoMatch, silent(), depth, two_words())
            self.refused(NoTaker, silent(), depth, Machine(["a"], ["x"], ["m"], []))
            self.refused(NoDepth, silent(), depth, silent())

    def test_wide_ones_are_not_refused(self):
        wide = two_rounds(16, 25)
        self.assertEqual(how_many_made(wide, 2), how_many_made(silent(), 2))
        self.assertEqual([how_many_blame(wide, 4, silent()), first_blamer(silent(), 4, wide)], [0, None])

    def test_the_model_need_not_be_a_taker(self):
        model = Machine(["a"], ["x"], ["m"], [])
        self.assertEqual([how_many_blame(model, 1, late(0)), first_blamer(model, 1, late(0))], [1, 1])


class ByTurns(unittest.TestCase):
    def test_several_models_and_machines(self):
        models = [silent(), Machine(["a"], ["x"], ["m"], [("m", A, "m"), ("m", X, "m")])]
        machines = [late(0), late(1), silent()]
        alone = [[first_blamer(model, 2, machine) for machine in machines] for model in models]
        # The second model speaks at once: late(1) is to blame at the first wait (10), silent() behind a, too (7).
        self.assertEqual(alone, [[1, 2, None], [None, 10, 7]])
        for turn in range(2):
            for number, model in enumerate(models):
                self.assertEqual([first_blamer(model, 2, machine) for machine in machines], alone[number])


if __name__ == "__main__":
    unittest.main()
