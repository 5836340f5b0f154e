"""Points 17 and 18: made trials, how many, by number, and their numbers."""

import random
import unittest

from mumtrial.errors import NoDepth, NoNumber, NoTrial
from mumtrial.keeping import keeps
from mumtrial.machines import Machine
from mumtrial.made import how_many_made, made_by, number_of
from mumtrial.trials import blames, need_trial
from tests import plain
from tests.samples import kiosk, model_parts, random_parts, taker_parts, words_for

HUSH = ("hush",)
STILL = ("still",)
A = ("ask", "a")
B = ("ask", "b")
X = ("say", "x")
END = ("end",)
BLAME = ("blame",)
FAR = (-1, 5, -2, 6, 100, 10 ** 30, -10 ** 30)


def small():
    """Takes a at first, then says x or is silent; b is never foreseen."""
    return Machine(["a", "b"], ["x"], ["p", "q", "r"], [("p", A, "q"), ("q", X, "p"), ("q", STILL, "r")])


def broad():
    """Four asks, four says, several rooms, silence in some."""
    rooms = ["p", "q", "r", "s"]
    doors = [(room, ("ask", ask), rooms[(number + step) % 4])
             for number, room in enumerate(rooms) for step, ask in enumerate("abcd") if (number, ask) != (2, "b")]
    doors += [("p", ("say", say), goal) for say, goal in zip("wxy", "qrs")]
    doors += [("q", ("say", "z"), "p"), ("q", ("say", "w"), "q"), ("s", STILL, "r"), ("p", STILL, "s")]
    return (list("abcd"), list("wxyz"), rooms, doors)


def tell(ask, *parts, words="x"):
    return ("tell", ask, parts[0], tuple(zip(words, parts[1:])))


def wait(*parts, words="x"):
    return ("wait", tuple(zip(words, parts)), parts[-1])


class HowMany(unittest.TestCase):
    def test_of_depth_0(self):
        for seed in range(20):
            machine = Machine(*random_parts(seed))
            self.assertEqual(how_many_made(machine, 0), 1)
            self.assertEqual(made_by(machine, 0, 0), END)
            self.assertEqual(number_of(machine, 0, END), 0)

    def test_of_depth_1(self):
        self.assertEqual(how_many_made(small(), 1), 3)
        self.assertEqual(how_many_made(kiosk(), 1), 4)
        self.assertEqual(how_many_made(Machine(["a"], ["x"], ["r"], []), 1), 2)

    def test_exactly_however_many(self):
        # At the one room all asks are foreseen and all says come, silence never: blame alone stands behind it.
        loud = Machine(list("abcd"), list("wxyz"), ["r"], [
            ("r", (kind, word), "r") for kind, words in (("ask", "abcd"), ("say", "wxyz")) for word in words])
        count = 1
        for depth in range(1, 5):
            count = 1 + 4 * count ** 5 + count ** 4
            self.assertEqual(how_many_made(loud, depth), count)
        self.assertGreater(count, 10 ** 100)

    def test_of_depth_4_of_several_rooms(self):
        parts = broad()
        model = plain.Plain(*parts)
        for depth in range(5):
            self.assertEqual(how_many_made(Machine(*parts), depth), plain.how_many_made(model, model.first(), depth))
        self.assertGreater(how_many_made(Machine(*parts), 4), 10 ** 30)

    def test_against_the_plain_words(self):
        for seed in range(60):
            parts = random_parts(seed)
            model = plain.Plain(*parts)
            for depth in range(4):
                self.assertEqual(how_many_made(Machine(*parts), depth), plain.how_many_made(model, model.first(), depth))

    def test_it_is_a_whole_number(self):
        self.assertIs(type(how_many_made(small(), 0)), int)
        self.assertIs(type(how_many_made(small(), 2)), int)


class TheOrder(unittest.TestCase):
    def test_end_the_tells_the_waits(self):
        self.assertEqual([made_by(small(), 1, number) for number in range(3)], [END, tell("a", END, BLAME), wait(BLAME, END)])

    def test_the_tells_by_the_order_of_asks(self):
        for asks in (["a", "b"], ["b", "a"]):
            model = Machine(asks, ["x"], ["p"], [("p", A, "p"), ("p", B, "p")])
            told = [made_by(model, 1, number) for number in range(4)]
            self.assertEqual(told, [END, tell(asks[0], END, BLAME), tell(asks[1], END, BLAME), wait(BLAME, END)])

    def test_asks_that_are_not_foreseen_are_left_out(self):
        model = Machine(["a", "b"], ["x"], ["p"], [("p", B, "p")])
        self.assertEqual([made_by(model, 1, number) for number in range(3)], [END, tell("b", END, BLAME), wait(BLAME, END)])

    def test_by_the_numbers_of_the_first_parts_then_of_the_second(self):
        # At the room x may come and silence may not, a is foreseen: end, tell and wait at each depth.
        model = Machine(["a"], ["x"], ["p"], [("p", A, "p"), ("p", X, "p")])
        one = [END, tell("a", END, END), wait(END, BLAME)]
        self.assertEqual([made_by(model, 1, number) for number in range(3)], one)
        two = [END] + [tell("a", first, second) for first in one for second in one] + [wait(first, BLAME) for first in one]
        self.assertEqual(how_many_made(model, 2), 13)
        self.assertEqual([made_by(model, 2, number) for number in range(13)], two)
        self.assertEqual([number_of(model, 2, trial) for trial in two], list(range(13)))

    def test_all_of_small_models(self):
        for seed in range(60):
            asks, says = words_for(seed)
            parts = model_parts(seed, asks, says)
            model, own = Machine(*parts), plain.Plain(*parts)
            for depth in range(3 if len(asks + says) > 2 else 4):
                trials = plain.made_trials(own, own.first(), depth)
                if len(trials) > 3000:
                    continue
                self.assertEqual(how_many_made(model, depth), len(trials))
                for number, trial in enumerate(trials):
                    self.assertEqual(made_by(model, depth, number), trial, (parts, depth, number))
                    self.assertEqual(number_of(model, depth, trial), number, (parts, depth, trial))

    def test_many_numbers_of_big_depths(self):
        for parts in (broad(), model_parts(8, ["a", "b"], ["x", "y"]), random_parts(5), random_parts(9)):
            model, own = Machine(*parts), plain.Plain(*parts)
            for depth in (3, 4):
                count = how_many_made(model, depth)
                chance = random.Random(depth)
                numbers = sorted({chance.randrange(count) for turn in range(12)} | {0, count // 2, count - 1})
                trials = [made_by(model, depth, number) for number in numbers]
                self.assertEqual([number_of(model, depth, trial) for trial in trials], numbers)
                keys = [plain.trial_key(own, trial) for trial in trials]
                self.assertEqual(keys, sorted(keys))
                self.assertEqual(len(set(trials)), len(trials))
                for trial in trials:
                    self.assertIsNone(need_trial(model, trial))

    def test_neighbours_of_big_depths(self):
        parts = broad()
        model, own = Machine(*parts), plain.Plain(*parts)
        chance = random.Random(3)
        for turn in range(10):
            number = chance.randrange(how_many_made(model, 4) - 1)
            one, other = made_by(model, 4, number), made_by(model, 4, number + 1)
            self.assertLess(plain.trial_key(own, one), plain.trial_key(own, other))

    def test_the_last_one(self):
        # The last wait: behind what may come the last ones again, else blame.
        model = small()
        self.assertEqual(made_by(model, 2, how_many_made(model, 2) - 1), wait(BLAME, wait(BLAME, END)))

    def test_their_kind(self):
        trial = made_by(small(), 2, 4)
        self.assertIs(type(trial), tuple)
        for way, story, one in plain.all_within(trial):
            self.assertIs(type(one), tuple)
            for sign, part in plain.parts(one):
                self.assertIs(type(part), tuple)


class TheNumber(unittest.TestCase):
    def test_none_of_what_is_not_made(self):
        model = small()
        for trial in (BLAME, tell("b", END, BLAME), tell("a", BLAME, BLAME), tell("a", END, END), wait(END, END),
                      wait(BLAME, BLAME), tell("b", BLAME, BLAME)):
            for depth in range(5):
                self.assertIsNone(number_of(model, depth, trial), trial)

    def test_none_of_one_that_is_too_deep(self):
        model = small()
        trial = END
        for depth in range(8):
            for other in range(5):
                number = number_of(model, other, trial)
                self.assertEqual(number is None, depth > other)
                if number is not None:
                    self.assertEqual(made_by(model, other, number), trial)
            trial = wait(BLAME, trial)

    def test_a_part_that_is_not_so_however_deep(self):
        model = small()
        good = tell("a", wait(END, tell("b", END, END)), BLAME)
        self.assertIsNone(number_of(model, 4, good))
        self.assertIsNotNone(number_of(model, 4, tell("a", wait(END, wait(BLAME, END)), BLAME)))
        self.assertIsNone(number_of(model, 4, tell("a", wait(END, wait(END, END)), BLAME)))

    def test_one_of_a_depth_among_those_of_the_next(self):
        for parts in (model_parts(8, ["a"], ["x"]), broad()):
            model = Machine(*parts)
            for depth in range(4):
                count = how_many_made(model, depth)
                chance = random.Random(depth)
                last = -1
                for number in sorted({chance.randrange(count) for turn in range(8)} | {0, count - 1}):
                    trial = made_by(model, depth, number)
                    deeper = number_of(model, depth + 1, trial)
                    self.assertEqual(made_by(model, depth + 1, deeper), trial)
                    self.assertGreater(deeper, last)
                    last = deeper

    def test_what_is_no_trial(self):
        for trial, way in ((("bad",), ()), (wait(BLAME, ("bad",)), (1,)), (tell("c", END, BLAME), ()),
                           (tell("b", END, tell("x", END, END)), (1,)), (("wait", (), END), ())):
            with self.assertRaises(NoTrial) as caught:
                number_of(small(), 2, trial)
            self.assertEqual(caught.exception.way, way)

    def test_towers_and_chains(self):
        trial = END
        for storey in range(40):
            trial = tell("a", trial, trial)
        with self.assertRaises(NoTrial):
            number_of(small(), 4, trial)
        trial = END
        for storey in range(5000):
            trial = wait(BLAME, trial)
        with self.assertRaises(NoTrial):
            number_of(small(), 4, trial)


class Refusals(unittest.TestCase):
    def test_depths_that_are_none(self):
        for depth in FAR:
            with self.assertRaises(NoDepth):
                how_many_made(small(), depth)
            with self.assertRaises(NoDepth):
                made_by(small(), depth, 0)
            with self.assertRaises(NoDepth):
                number_of(small(), depth, END)
        for depth in range(5):
            self.assertGreaterEqual(how_many_made(small(), depth), 1)
            self.assertEqual(made_by(small(), depth, 0), END)
            self.assertEqual(number_of(small(), depth, END), 0)

    def test_numbers_that_are_none(self):
        for model in (small(), kiosk(), Machine(*broad())):
            for depth in range(5):
                count = how_many_made(model, depth)
                self.assertIsNotNone(made_by(model, depth, count - 1))
                for number in (count, -1, count + 1, -count, 2 * count, -2, 10 ** 200, -10 ** 200):
                    with self.assertRaises(NoNumber):
                        made_by(model, depth, number)

    def test_the_order_of_refusals(self):
        for depth in FAR:
            with self.assertRaises(NoTrial):
                number_of(small(), depth, ("bad",))
            for number in (-1, 10 ** 200):
                with self.assertRaises(NoDepth):
                    made_by(small(), depth, number)

    def test_a_refusal_changes_nothing(self):
        model = small()
        for turn in range(2):
            with self.assertRaises(NoNumber):
                made_by(model, 1, 3)
            self.assertEqual(made_by(model, 1, 2), wait(BLAME, END))


class TheWhole(unittest.TestCase):
    """Point 3: the trials made from a model are fair, and told by number and numbered when told."""

    def test_made_trials_blame_no_right_machine(self):
        right = 0
        for seed in range(300):
            asks, says = words_for(seed)
            model, taker = Machine(*model_parts(2 * seed, asks, says)), Machine(*taker_parts(7 * seed + 5, asks, says))
            if keeps(model, taker)[0] == "keeps":
                right += 1
                chance = random.Random(seed)
                for depth in range(5):
                    trial = made_by(model, depth, chance.randrange(how_many_made(model, depth)))
                    self.assertIsNone(blames(model, trial, taker))
        self.assertGreater(right, 30)

    def test_models_by_turns(self):
        one, other = small(), kiosk()
        for turn in range(3):
            self.assertEqual(how_many_made(one, 1), 3)
            self.assertEqual(how_many_made(other, 1), 4)
            self.assertEqual(made_by(one, 1, 2), wait(BLAME, END))
            self.assertEqual(made_by(other, 1, 3), wait(BLAME, BLAME, END, words=["tea", "milk"]))


if __name__ == "__main__":
    unittest.main()
