"""Points 24, 14, 21 and 3 of fair trials: the first leaf that may blame a right machine."""

import itertools
import random
import unittest

from mumtrial.errors import NoTrial, TooWide
from mumtrial.fair import unfair
from mumtrial.keeping import keeps
from mumtrial.machines import Machine
from mumtrial.made import how_many_made, made_by
from mumtrial.stories import is_story
from mumtrial.trials import blames, leaves
from mumtrial.widest import widest
from tests import plain
from tests.samples import (bent_hopeless_parts, chain, hopeless_parts, lists_of, listened, model_parts, near_parts,
                           taker_parts, two_silences, words_for)

HUSH = ("hush",)
STILL = ("still",)
A = ("ask", "a")
X = ("say", "x")
END = ("end",)
BLAME = ("blame",)


def tell(ask, behind, *says, words="xy"):
    return ("tell", ask, behind, tuple(zip(words, says)))


def wait(*parts, words="xy"):
    return ("wait", tuple(zip(words, parts[:-1])), parts[-1])


def random_trial(chance, asks, says, depth):
    if depth == 0 or chance.random() < 0.15:
        return chance.choice([END, END, END, BLAME])
    parts = [random_trial(chance, asks, says, depth - 1) for number in range(len(says) + 1)]
    if chance.random() < 0.5:
        return tell(chance.choice(asks), *parts, words=says)
    return wait(*parts, words=says)


def answering():
    """Behind a it says x; else it is silent."""
    return Machine(["a"], ["x", "y"], ["p", "q"], [("p", A, "q"), ("q", X, "p"), ("q", A, "q")])


class FairOrNot(unittest.TestCase):
    def test_fair_ones(self):
        for trial in (END, wait(BLAME, BLAME, END), tell("a", END, BLAME, BLAME), tell("a", wait(END, BLAME, BLAME), END, END),
                      tell("a", wait(wait(BLAME, BLAME, END), BLAME, BLAME), BLAME, BLAME)):
            self.assertIsNone(unfair(answering(), trial))

    def test_an_unfair_leaf(self):
        self.assertEqual(unfair(answering(), wait(BLAME, BLAME, BLAME)), 2)
        self.assertEqual(unfair(answering(), wait(BLAME, END, BLAME)), 2)
        self.assertEqual(unfair(answering(), tell("a", BLAME, END, END)), 0)
        self.assertEqual(unfair(answering(), tell("a", wait(BLAME, END, END), END, END)), 0)
        self.assertEqual(unfair(answering(), tell("a", wait(wait(END, BLAME, BLAME), END, END), END, END)), 2)

    def test_the_first_of_several(self):
        trial = tell("a", tell("a", BLAME, BLAME, BLAME), BLAME, BLAME)
        self.assertEqual([leaf[1] for leaf in leaves(answering(), trial)][:2], [[A, A], [A, X]])
        self.assertEqual(unfair(answering(), trial), 0)
        trial = tell("a", tell("a", END, BLAME, BLAME), BLAME, BLAME)
        self.assertEqual(unfair(answering(), trial), 1)

    def test_the_number_counts_ends_and_fair_blames_too(self):
        trial = tell("a", wait(wait(END, BLAME, END), BLAME, wait(BLAME, BLAME, BLAME)), wait(BLAME, BLAME, BLAME), BLAME)
        self.assertIsNone(unfair(answering(), trial))
        trial = tell("a", wait(wait(END, BLAME, BLAME), BLAME, BLAME), BLAME, BLAME)
        self.assertEqual(unfair(answering(), trial), 2)

    def test_blame_alone(self):
        self.assertEqual(unfair(answering(), BLAME), 0)
        self.assertEqual(unfair(Machine(["a"], ["x", "y"], ["p"], []), BLAME), 0)
        self.assertIsNone(unfair(answering(), END))

    def test_where_no_machine_keeps_each_trial_is_fair(self):
        model = Machine(*hopeless_parts())
        for trial in (BLAME, END, wait(BLAME, BLAME, BLAME), tell("a", BLAME, BLAME, BLAME),
                      tell("b", wait(BLAME, BLAME, BLAME), END, BLAME)):
            self.assertIsNone(unfair(model, trial))

    def test_behind_an_ask_that_is_not_foreseen_no_blame_is_fair(self):
        model = Machine(["a", "b"], ["x", "y"], ["p"], [("p", A, "p")])
        for number in range(3):
            parts = [END, END, END]
            parts[number] = BLAME
            self.assertEqual(unfair(model, tell("b", wait(*parts), END, END)), number)
        self.assertIsNone(unfair(model, tell("a", wait(BLAME, BLAME, END), BLAME, BLAME)))

    def test_what_the_model_has_but_no_right_machine(self):
        # At first x or silence may come at the model, but behind silence nobody could go on rightly.
        asks, says, rooms, doors = hopeless_parts()
        model = Machine(asks, says, rooms, doors + [("p", X, "sayx")])
        self.assertIs(is_story(model, [HUSH]), True)
        self.assertIsNone(unfair(model, wait(END, BLAME, BLAME)))
        self.assertEqual(unfair(model, wait(BLAME, BLAME, BLAME)), 0)

    def test_silence_heard_and_not_heard(self):
        heard = wait(BLAME, BLAME, tell("a", wait(END, BLAME, BLAME), BLAME, BLAME))
        self.assertIsNone(unfair(two_silences(), heard))
        self.assertEqual(unfair(two_silences(), tell("a", wait(END, BLAME, BLAME), BLAME, BLAME)), 1)
        self.assertIsNone(unfair(two_silences(), tell("a", wait(END, END, BLAME), BLAME, BLAME)))

    def test_against_the_widest_one(self):
        counts = {True: 0, False: 0}
        for seed in range(240):
            asks, says = words_for(seed)
            parts = model_parts(seed, asks, says, 3) if seed % 3 else taker_parts(seed, asks, says, 3)
            if seed % 5 == 0:
                parts = bent_hopeless_parts(seed // 5)
            model = Machine(*parts)
            right = widest(model)
            trial = random_trial(random.Random(seed), parts[0], parts[1], 4)
            told = unfair(model, trial)
            wrong = [number for number, (way, story, word) in enumerate(leaves(model, trial))
                     if word == "blame" and right is not None and is_story(right, story)]
            self.assertEqual(told, min(wrong, default=None))
            if right is not None:
                self.assertEqual(told is not None, blames(model, trial, right) is not None)
            counts[told is None] += 1
        self.assertGreater(min(counts.values()), 60)

    def test_a_fair_one_blames_no_right_taker(self):
        kept = 0
        for seed in range(150):
            asks, says = words_for(seed)
            parts = model_parts(seed, asks, says)
            trial = random_trial(random.Random(seed), asks, says, 4)
            for turn in range(3):
                taker = Machine(*near_parts(5 * seed + turn, parts))
                if keeps(Machine(*parts), taker)[0] == "keeps" and unfair(Machine(*parts), trial) is None:
                    kept += 1
                    self.assertIs(plain.run_blames(plain.Plain(*lists_of(taker)), trial), False)
        self.assertGreater(kept, 40)

    def test_made_trials_are_fair(self):
        for seed in range(60):
            parts = bent_hopeless_parts(seed) if seed % 3 == 0 else model_parts(seed, *words_for(seed))
            model = Machine(*parts)
            for depth in range(5):
                count = how_many_made(model, depth)
                chance = random.Random(seed)
                for number in {0, count - 1, count // 2} | {chance.randrange(count) for turn in range(3)}:
                    self.assertIsNone(unfair(model, made_by(model, depth, number)))


class Refused(unittest.TestCase):
    def way_of(self, trial, model=answering()):
        with self.assertRaises(NoTrial) as caught:
            unfair(model, trial)
        self.assertIs(type(caught.exception.way), tuple)
        return caught.exception.way

    def test_what_is_no_trial(self):
        bad = ("bad",)
        self.assertEqual(self.way_of(bad), ())
        self.assertEqual(self.way_of(tell("b", END, END, END)), ())
        self.assertEqual(self.way_of(wait(END, END, words="x")), ())
        self.assertEqual(self.way_of(wait(END, bad, bad)), (1,))
        self.assertEqual(self.way_of(tell("a", wait(END, END, tell("x", BLAME, END, END)), bad, BLAME)), (0, 2))

    def test_also_behind_an_unfair_leaf(self):
        self.assertEqual(self.way_of(tell("a", BLAME, BLAME, ("bad",))), (2,))

    def test_just_eight_and_nine_within_one_another(self):
        trial = END
        for turn in range(7):
            trial = wait(END, END, trial)
        self.assertIsNone(unfair(answering(), trial))
        self.assertEqual(self.way_of(wait(END, END, trial)), ())

    def test_chains_of_some_thousands(self):
        for count, leaf in itertools.product((1000, 6000), (END, BLAME, ("bad",))):
            trial = leaf
            for turn in range(count):
                trial = tell("a", trial, END, END) if turn % 2 else wait(END, trial, END)
            self.assertEqual(self.way_of(trial), ())

    def test_a_tower_of_forty_storeys(self):
        for leaf in (END, BLAME, ("bad",)):
            trial = leaf
            for storey in range(40):
                trial = wait(trial, trial, trial) if storey % 2 else tell("a", trial, trial, trial)
            self.assertEqual(self.way_of(trial), ())

    def test_where_no_machine_keeps_too(self):
        self.assertEqual(self.way_of(("bad",), Machine(*hopeless_parts())), ())

    def test_too_wide(self):
        for trial in (END, BLAME, wait(END, BLAME, words="x")):
            self.assertEqual(unfair(chain(60), trial), 0 if trial == BLAME else 1 if trial != END else None)
            self.assertEqual(unfair(listened(False), trial), 0 if trial == BLAME else 1 if trial != END else None)
            for model in (chain(61), chain(150), listened(True)):
                with self.assertRaises(TooWide):
                    unfair(model, trial)

    def test_no_trial_goes_ahead_of_too_wide(self):
        for model in (chain(61), listened(True)):
            self.assertEqual(self.way_of(("bad",), model), ())
            self.assertEqual(self.way_of(wait(END, ("bad",), words="x"), model), (1,))

    def test_a_refusal_changes_nothing(self):
        model = answering()
        for turn in range(3):
            self.assertEqual(self.way_of(("bad",), model), ())
            self.assertEqual(unfair(model, BLAME), 0)
        self.assertEqual(lists_of(model), lists_of(answering()))

    def test_the_number_is_a_number(self):
        self.assertIs(type(unfair(answering(), BLAME)), int)


if __name__ == "__main__":
    unittest.main()
