"""Points 29, 21 and 3 of sittings: heard sign by sign, blamed from the first sign on that no right machine has."""

import itertools
import random
import unittest

from mumtrial.errors import NoRight, NoSign, NoWord, TooWide
from mumtrial.keeping import keeps
from mumtrial.machines import Machine
from mumtrial.rights import Rights
from mumtrial.sittings import Sitting
from mumtrial.stories import is_story
from mumtrial.widest import widest
from tests.samples import (bent_hopeless_parts, chain, hopeless_parts, kiosk, lists_of, listened, model_parts, names,
                           near_parts, two_silences, words_for)

HUSH = ("hush",)
A = ("ask", "a")
B = ("ask", "b")
X = ("say", "x")
Y = ("say", "y")
COIN = ("ask", "coin")
CARD = ("ask", "card")
TEA = ("say", "tea")
MILK = ("say", "milk")


def heard(model, story):
    sitting = Sitting(model)
    for sign in story:
        sitting.hear(sign)
    return sitting


def told(sitting):
    return (sitting.story(), sitting.blamed_at(), sitting.next_right())


def narrow_models(count):
    for seed in range(count):
        parts = bent_hopeless_parts(seed) if seed % 3 == 0 else model_parts(seed, *words_for(seed), 3)
        if widest(Machine(*parts)) is not None:
            yield seed, parts


class Begun(unittest.TestCase):
    def test_no_right(self):
        self.assertRaises(NoRight, Sitting, Machine(*hopeless_parts()))

    def test_just_where_no_machine_keeps(self):
        refused = 0
        for seed in range(60):
            model = Machine(*bent_hopeless_parts(seed))
            if widest(model) is None:
                refused += 1
                self.assertRaises(NoRight, Sitting, model)
            else:
                self.assertEqual(Sitting(model).story(), [])
        self.assertGreater(refused, 10)

    def test_too_wide(self):
        for model in (chain(61), chain(150), listened(True)):
            self.assertRaises(TooWide, Sitting, model)
        self.assertEqual(Sitting(chain(60)).next_right(), [HUSH])
        self.assertEqual(Sitting(listened(False)).next_right(), [HUSH])

    def test_too_wide_goes_ahead_of_no_right(self):
        # No machine keeps to it, as behind its first silence none could go on, but there are more than sixty charges.
        asks, says, rooms, doors = hopeless_parts()
        more = ["z" + name for name in names(70)]
        doors = doors + [("sayx", A, more[0])] + [(start, A, goal) for start, goal in zip(more, more[1:])]
        self.assertIsNone(Rights(Machine(asks, says, rooms + more, doors)).first())
        self.assertRaises(TooWide, Sitting, Machine(asks, says, rooms + more, doors))

    def test_the_first_telling(self):
        self.assertEqual(told(Sitting(kiosk())), ([], None, [HUSH]))


class Heard(unittest.TestCase):
    def test_what_right_machines_have(self):
        story = [HUSH, COIN, TEA, HUSH, CARD, MILK, COIN, HUSH, COIN]
        sitting = Sitting(kiosk())
        for number, sign in enumerate(story):
            self.assertIsNone(sitting.hear(sign))
            self.assertEqual(sitting.story(), story[:number + 1])
            self.assertIsNone(sitting.blamed_at())
        self.assertEqual(sitting.next_right(), [HUSH])

    def test_the_sign_with_which_it_began_to_blame(self):
        self.assertEqual(heard(kiosk(), [TEA]).blamed_at(), 0)
        self.assertEqual(heard(kiosk(), [COIN, TEA, TEA]).blamed_at(), 2)
        self.assertEqual(heard(kiosk(), [CARD, HUSH]).blamed_at(), 1)
        self.assertEqual(heard(kiosk(), [COIN, HUSH, MILK]).blamed_at(), 2)

    def test_signs_behind_that_one(self):
        for more in ([TEA], [HUSH, HUSH], [COIN, TEA, CARD], [COIN] * 30):
            sitting = heard(kiosk(), [COIN, TEA, TEA] + more)
            self.assertEqual(told(sitting), ([COIN, TEA, TEA] + more, 2, []))

    def test_silence_heard_and_not_heard(self):
        sitting = heard(two_silences(), [A])
        self.assertEqual(sitting.next_right(), [X, Y])
        sitting = heard(two_silences(), [HUSH, A])
        self.assertEqual(sitting.next_right(), [X])
        self.assertEqual(heard(two_silences(), [HUSH, HUSH, A]).next_right(), [X])
        self.assertEqual(heard(two_silences(), [HUSH, A, Y]).blamed_at(), 2)
        self.assertIsNone(heard(two_silences(), [A, Y]).blamed_at())
        self.assertEqual(heard(two_silences(), [HUSH]).next_right(), [HUSH])

    def test_what_the_model_has_but_no_right_machine(self):
        asks, says, rooms, doors = hopeless_parts()
        model = Machine(asks, says, rooms, doors + [("p", X, "sayx")])
        self.assertEqual(Sitting(model).next_right(), [X])
        self.assertIs(is_story(model, [HUSH]), True)
        self.assertEqual(heard(model, [HUSH]).blamed_at(), 0)

    def test_an_ask_that_the_model_does_not_foresee(self):
        model = Machine(["a", "b"], ["x", "y"], ["p"], [("p", A, "p")])
        self.assertEqual(heard(model, [B]).next_right(), [X, Y, HUSH])
        self.assertEqual(told(heard(model, [B, X, X, HUSH, A, Y])), ([B, X, X, HUSH, A, Y], None, [X, Y, HUSH]))

    def test_next_right_is_in_the_order_of_says_hush_last(self):
        for says in itertools.permutations("wxyz"):
            model = Machine(["a"], list(says), ["p"], [])
            self.assertEqual(heard(model, [A]).next_right(), [("say", say) for say in says] + [HUSH])

    def test_next_right_is_just_what_is_not_blamed(self):
        for seed, parts in narrow_models(60):
            chance = random.Random(seed)
            model = Machine(*parts)
            answers = [("say", say) for say in parts[1]] + [HUSH]
            sitting = Sitting(model)
            for turn in range(8):
                right = []
                for sign in answers:
                    sitting.hear(sign)
                    if sitting.blamed_at() is None:
                        right.append(sign)
                    sitting.back()
                self.assertEqual(sitting.next_right(), right)
                sitting.hear(chance.choice(right + [("ask", ask) for ask in parts[0]]))
                self.assertIsNone(sitting.blamed_at())

    def test_against_the_widest_one(self):
        counts = {True: 0, False: 0}
        for seed, parts in narrow_models(90):
            right = widest(Machine(*parts))
            signs = [("ask", ask) for ask in parts[0]] + [("say", say) for say in parts[1]] + [HUSH]
            chance = random.Random(seed)
            for turn in range(10):
                story = [chance.choice(signs) for length in range(5)]
                wrong = [number for number in range(5) if not is_story(right, story[:number + 1])]
                self.assertEqual(heard(Machine(*parts), story).blamed_at(), min(wrong, default=None))
                counts[wrong == []] += 1
        self.assertGreater(min(counts.values()), 50)

    def test_blamed_at_the_latest_at_the_last_sign_of_a_fault(self):
        faults = 0
        for seed, parts in narrow_models(90):
            model = Machine(*parts)
            answer = keeps(model, Machine(*near_parts(seed, parts)))
            if answer[0] == "fault":
                faults += 1
                story = answer[1] + [answer[2]]
                self.assertIsNotNone(heard(model, story).blamed_at())
                self.assertLess(heard(model, story).blamed_at(), len(story))
        self.assertGreater(faults, 20)


class WrongSigns(unittest.TestCase):
    def test_no_word(self):
        for story in ([], [COIN], [COIN, TEA, TEA], [HUSH]):
            sitting = heard(kiosk(), story)
            before = told(sitting)
            for sign in (("ask", "bill"), ("say", "soup"), ("ask", "tea"), ("say", "coin"), ("ask", ""), ("say", "hush"),
                         ("hush", "coin"), ("still",), ("ask",), ("say",), ("coin",), ("Ask", "coin"), ("tell", "coin"),
                         ("hush ",), ("",)):
                with self.assertRaises(NoWord) as caught:
                    sitting.hear(sign)
                self.assertEqual(caught.exception.number, 0)
                self.assertEqual(told(sitting), before)
        sitting.hear(COIN)
        self.assertEqual(told(sitting), ([HUSH, COIN], None, [TEA, MILK, HUSH]))


class Back(unittest.TestCase):
    def test_by_one_sign(self):
        sitting = heard(kiosk(), [COIN, HUSH])
        self.assertIsNone(sitting.back())
        self.assertEqual(told(sitting), ([COIN], None, [TEA, MILK, HUSH]))
        sitting.back()
        self.assertEqual(told(sitting), ([], None, [HUSH]))

    def test_behind_the_blamed_sign(self):
        sitting = heard(kiosk(), [COIN, TEA, TEA, HUSH, COIN])
        for left, blamed in ((4, 2), (3, 2), (2, None), (1, None), (0, None)):
            sitting.back()
            self.assertEqual((len(sitting.story()), sitting.blamed_at()), (left, blamed))
            self.assertEqual(sitting.next_right() == [], blamed is not None)

    def test_back_and_on_another_way(self):
        sitting = heard(kiosk(), [COIN, TEA, TEA])
        sitting.back()
        sitting.hear(HUSH)
        self.assertEqual(told(sitting), ([COIN, TEA, HUSH], None, [HUSH]))
        sitting.hear(MILK)
        self.assertEqual(sitting.blamed_at(), 3)

    def test_no_sign(self):
        sitting = Sitting(kiosk())
        self.assertRaises(NoSign, sitting.back)
        self.assertEqual(told(sitting), ([], None, [HUSH]))
        sitting.hear(TEA)
        sitting.back()
        self.assertRaises(NoSign, sitting.back)
        sitting.hear(COIN)
        self.assertEqual(told(sitting), ([COIN], None, [TEA, MILK, HUSH]))

    def test_at_each_turn_as_heard_anew(self):
        signs = [COIN, CARD, TEA, MILK, HUSH]
        chance = random.Random(3)
        sitting, story = Sitting(kiosk()), []
        for turn in range(400):
            if story and chance.random() < 0.45:
                story.pop()
                sitting.back()
            else:
                onward = chance.choice(signs if chance.random() < 0.4 else sitting.next_right() + [COIN, CARD])
                story.append(onward)
                sitting.hear(onward)
            self.assertEqual(told(sitting), told(heard(kiosk(), story)))


class OwnThings(unittest.TestCase):
    def test_two_sittings_by_turns(self):
        model = kiosk()
        one, other = Sitting(model), Sitting(model)
        one.hear(COIN)
        self.assertEqual(told(other), ([], None, [HUSH]))
        other.hear(TEA)
        one.hear(TEA)
        self.assertEqual((one.blamed_at(), other.blamed_at()), (None, 0))
        other.back()
        self.assertEqual(told(one), ([COIN, TEA], None, [HUSH]))
        self.assertEqual(told(other), ([], None, [HUSH]))

    def test_two_models_by_turns(self):
        one, other = Sitting(kiosk()), Sitting(two_silences())
        one.hear(COIN)
        other.hear(A)
        self.assertRaises(NoWord, one.hear, A)
        self.assertRaises(NoWord, other.hear, COIN)
        self.assertEqual((one.next_right(), other.next_right()), ([TEA, MILK, HUSH], [X, Y]))

    def test_told_lists_that_are_changed_change_nothing(self):
        sitting = heard(kiosk(), [COIN])
        for turn in range(3):
            sitting.story().append(TEA)
            sitting.story().clear()
            sitting.next_right().clear()
            sitting.next_right().append(COIN)
            self.assertEqual(told(sitting), ([COIN], None, [TEA, MILK, HUSH]))
        sitting = heard(kiosk(), [TEA])
        sitting.next_right().append(TEA)
        self.assertEqual(sitting.next_right(), [])

    def test_the_kinds_of_what_is_told(self):
        sitting = heard(kiosk(), [COIN, TEA, TEA])
        self.assertIs(type(sitting.story()), list)
        self.assertIs(type(sitting.blamed_at()), int)
        self.assertIs(type(sitting.next_right()), list)

    def test_the_model_stays_as_it_was(self):
        model = kiosk()
        sitting = Sitting(model)
        for part in lists_of(model):
            part.clear()
        sitting.hear(COIN)
        self.assertEqual(lists_of(model), lists_of(kiosk()))
        self.assertEqual(sitting.next_right(), [TEA, MILK, HUSH])


if __name__ == "__main__":
    unittest.main()
