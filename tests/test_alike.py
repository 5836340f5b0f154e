"""Points 24 and 21 of two models: alike ones, or the first story that parts them."""

import itertools
import random
import unittest

from mumtrial.alike import parted
from mumtrial.errors import NoMatch, TooWide
from mumtrial.keeping import keeps
from mumtrial.machines import Machine
from mumtrial.rights import Rights
from mumtrial.stories import is_story
from mumtrial.widest import widest
from tests.plain import Plain
from tests.samples import (bent_hopeless_parts, chain, hopeless_parts, kiosk, lists_of, listened, model_parts, names,
                           near_parts, taker_parts, two_silences, words_for)

HUSH = ("hush",)
STILL = ("still",)
A = ("ask", "a")
B = ("ask", "b")
X = ("say", "x")
Y = ("say", "y")
NONE = Machine(*hopeless_parts())


def of_two_words(*doors, rooms=("p", "q", "r")):
    return Machine(["a"], ["x", "y"], list(rooms), list(doors))


def turned(seed, parts):
    """The same model with other names and another order of rooms behind the first, and of doors."""
    chance = random.Random(seed)
    asks, says, rooms, doors = parts
    fresh = chance.sample(names(400)[200:], len(rooms))
    named = dict(zip(rooms, fresh))
    others = fresh[1:]
    chance.shuffle(others)
    doors = [(named[start], sign, named[goal]) for start, sign, goal in doors]
    chance.shuffle(doors)
    return (asks, says, fresh[:1] + others, doors)


def first_difference(one, other, longest):
    """The first story of at most so many signs that just one of these machines has, None for no machine."""
    stories = [set() if machine is None else set(Plain(*lists_of(machine)).stories(longest)) for machine in (one, other)]
    key = Plain(*lists_of(one if one is not None else other)).story_key
    return min(stories[0] ^ stories[1], key=key, default=None)


def pairs(count):
    for seed in range(count):
        if seed % 3 == 0:
            yield seed, bent_hopeless_parts(seed), bent_hopeless_parts(seed + 1000)
        elif seed % 3 == 1:
            parts = model_parts(seed, *words_for(seed))
            yield seed, parts, near_parts(seed, parts)
        else:
            yield seed, model_parts(seed, *words_for(seed)), taker_parts(seed + 3, *words_for(seed))


class Alike(unittest.TestCase):
    def test_a_model_and_itself(self):
        for machine in (kiosk(), two_silences(), NONE, chain(60), Machine(["a"], ["x"], ["r"], [])):
            self.assertIsNone(parted(machine, machine))
        for seed, one, other in pairs(40):
            self.assertIsNone(parted(Machine(*one), Machine(*one)))

    def test_other_names_and_another_order_of_rooms(self):
        for seed, one, other in pairs(60):
            self.assertIsNone(parted(Machine(*one), Machine(*turned(seed, one))))
            self.assertIsNone(parted(Machine(*turned(seed, other)), Machine(*other)))

    def test_a_model_and_its_widest_machine(self):
        for seed, one, other in pairs(60):
            right = widest(Machine(*one))
            if right is not None:
                self.assertIsNone(parted(Machine(*one), right))
                self.assertIsNone(parted(right, Machine(*one)))

    def test_two_to_which_no_machine_keeps(self):
        asks, says, rooms, doors = hopeless_parts()
        other = Machine(asks, says, ["top"] + rooms, doors + [("top", X, "p")])
        self.assertIsNone(widest(other))
        self.assertIsNone(parted(NONE, other))
        self.assertIsNone(parted(other, NONE))

    def test_unlike_stories_of_the_models_but_the_same_right_machines(self):
        # Behind y nobody could go on rightly, so whether the model says it is all the same.
        asks, says, rooms, doors = hopeless_parts()
        one = Machine(asks, says, ["top", "good"] + rooms, doors + [("top", X, "good"), ("top", Y, "p")])
        other = Machine(asks, says, ["top", "good"] + rooms, doors + [("top", X, "good")])
        self.assertEqual([is_story(one, [Y]), is_story(other, [Y])], [True, False])
        self.assertIsNone(parted(one, other))
        self.assertIsNone(parted(other, one))

    def test_just_those_to_which_the_same_takers_keep(self):
        for seed, one, other in pairs(60):
            if parted(Machine(*one), Machine(*other)) is None:
                for turn in range(6):
                    taker = Machine(*near_parts(9 * seed + turn, one if turn % 2 else other))
                    self.assertEqual(keeps(Machine(*one), taker)[0], keeps(Machine(*other), taker)[0])


class Parted(unittest.TestCase):
    def both_ways(self, one, other):
        story = parted(one, other)
        self.assertEqual(parted(other, one), story)
        return story

    def test_by_a_say_by_silence_and_behind_an_ask(self):
        silent = of_two_words(("p", A, "p"))
        self.assertEqual(self.both_ways(silent, of_two_words(("p", A, "p"), ("p", X, "p"))), [X])
        self.assertEqual(self.both_ways(of_two_words(("p", A, "p"), ("p", X, "p")),
                                        of_two_words(("p", A, "p"), ("p", X, "p"), ("p", STILL, "q"), ("q", A, "p"))), [HUSH])
        self.assertEqual(self.both_ways(silent, of_two_words(("p", A, "q"), ("q", A, "q"), ("q", Y, "q"))), [A, Y])

    def test_the_shorter_goes_first(self):
        # Behind a they are parted by x, but at once by hush, which stands last in the order of signs.
        one = of_two_words(("p", A, "q"), ("p", Y, "r"), ("q", X, "q"), ("q", A, "q"), ("r", A, "r"))
        other = of_two_words(("p", A, "r"), ("p", Y, "r"), ("p", STILL, "q"), ("q", A, "r"), ("r", A, "r"))
        self.assertEqual(self.both_ways(one, other), [HUSH])

    def test_of_one_length_by_the_order_of_signs(self):
        silent = of_two_words(("p", A, "p"))
        loud = of_two_words(("p", A, "p"), ("p", X, "p"), ("p", Y, "p"))
        self.assertEqual(self.both_ways(silent, loud), [X])
        doors = [("p", A, "p"), ("p", X, "p"), ("p", Y, "p")]
        machines = [Machine(["a"], ["y", "x"], ["p"], doors[:1]), Machine(["a"], ["y", "x"], ["p"], doors)]
        self.assertEqual(self.both_ways(*machines), [Y])
        late = of_two_words(("p", A, "q"), ("q", A, "q"), ("q", X, "q"), ("p", STILL, "r"), ("r", A, "p"))
        # The silence that is heard leads on to the first room, the ask to one that says x.
        other = of_two_words(("p", A, "q"), ("q", A, "q"), ("q", Y, "q"), ("p", STILL, "r"), ("r", A, "p"))
        self.assertEqual(self.both_ways(late, other), [A, X])

    def test_by_the_order_of_asks(self):
        for asks in (["a", "b"], ["b", "a"]):
            silent = Machine(asks, ["x"], ["p"], [("p", A, "p"), ("p", B, "p")])
            late = Machine(asks, ["x"], ["p", "q"], [
                ("p", A, "q"), ("p", B, "q"), ("q", A, "q"), ("q", B, "q"), ("q", X, "q")])
            self.assertEqual(self.both_ways(silent, late), [("ask", asks[0]), X])

    def test_the_empty_story_where_just_one_has_a_right_machine(self):
        free = Machine(["a", "b"], ["x", "y"], ["r"], [])
        self.assertEqual(parted(NONE, free), [])
        self.assertEqual(parted(free, NONE), [])

    def test_far_behind(self):
        for count in (2, 20, 59):
            long = chain(count)
            loud = Machine(["a"], ["x"], long.rooms(), long.doors() + [(long.rooms()[-1], X, long.rooms()[-1])])
            self.assertEqual(self.both_ways(long, loud), [A] * (count - 1) + [X])

    def test_silence_that_was_heard(self):
        doors = [("p", STILL, "q"), ("p", A, "w"), ("q", A, "v"), ("v", X, "v"), ("w", Y, "w"), ("v", A, "v"), ("w", A, "w")]
        heard = of_two_words(*doors, rooms="pqvw")
        both = of_two_words(*doors, ("q", A, "w"), rooms="pqvw")
        self.assertEqual(self.both_ways(heard, both), [HUSH, A, Y])

    def test_against_the_stories_of_the_widest_machines(self):
        lengths = {}
        for seed, one, other in pairs(240):
            story = self.both_ways(Machine(*one), Machine(*other))
            rights = [widest(Machine(*one)), widest(Machine(*other))]
            if rights == [None, None]:
                self.assertIsNone(story)
                continue
            first = first_difference(*rights, 3)
            if story is None or len(story) > 3:
                self.assertIsNone(first)
            else:
                self.assertEqual(story, list(first))
            length = None if story is None else len(story)
            lengths[length] = lengths.get(length, 0) + 1
            if story is not None:
                has = [Rights(Machine(*parts)).has_story(story) for parts in (one, other)]
                self.assertEqual(sorted(has), [False, True])
        self.assertGreater(min(lengths.get(length, 0) for length in (None, 0, 1, 2, 3)), 2, lengths)


class Refused(unittest.TestCase):
    def test_other_words_or_another_order(self):
        one = Machine(["a", "b"], ["x", "y"], ["p"], [])
        for asks, says in ((["a"], ["x", "y"]), (["a", "b"], ["x"]), (["b", "a"], ["x", "y"]), (["a", "b"], ["y", "x"]),
                           (["x", "y"], ["a", "b"]), (["a", "c"], ["x", "y"]), (["a", "b"], ["x", "y", "z"])):
            other = Machine(asks, says, ["p"], [])
            self.assertRaises(NoMatch, parted, one, other)
            self.assertRaises(NoMatch, parted, other, one)

    def test_too_wide(self):
        narrow = Machine(["a"], ["x"], ["p"], [("p", A, "p")])
        self.assertIsNone(parted(chain(60), narrow))
        self.assertIsNone(parted(listened(False), narrow))
        for wide in (chain(61), chain(150), listened(True)):
            for pair in ((wide, narrow), (narrow, wide), (wide, wide), (wide, chain(62))):
                self.assertRaises(TooWide, parted, *pair)

    def test_too_wide_beside_one_to_which_no_machine_keeps(self):
        rooms = names(70)
        doors = [(start, sign, goal) for start, goal in zip(rooms, rooms[1:] + rooms[-1:]) for sign in (A, B)]
        wide = Machine(["a", "b"], ["x", "y"], rooms, doors)
        self.assertRaises(TooWide, parted, NONE, wide)
        self.assertRaises(TooWide, parted, wide, NONE)

    def test_no_match_goes_ahead_of_too_wide(self):
        other = Machine(["b"], ["x"], ["p"], [])
        for wide in (chain(61), listened(True)):
            self.assertRaises(NoMatch, parted, wide, other)
            self.assertRaises(NoMatch, parted, other, wide)


class OwnThings(unittest.TestCase):
    def test_a_changed_story_changes_nothing_told_later(self):
        one, other = chain(3), chain(3)
        loud = Machine(["a"], ["x"], ["p"], [("p", A, "p"), ("p", X, "p")])
        for turn in range(3):
            story = parted(one, loud)
            self.assertEqual(story, [X])
            self.assertIs(type(story), list)
            story.append(X)
        self.assertEqual(lists_of(one), lists_of(other))
        for turn in range(2):
            parted(NONE, Machine(["a", "b"], ["x", "y"], ["r"], [])).append(A)
            self.assertEqual(parted(NONE, Machine(["a", "b"], ["x", "y"], ["r"], [])), [])

    def test_by_turns(self):
        machines = [Machine(*bent_hopeless_parts(seed)) for seed in range(6)]
        told = [parted(one, other) for one, other in itertools.product(machines, machines)]
        again = [parted(one, other) for one, other in reversed(list(itertools.product(machines, machines)))]
        self.assertEqual(told, again[::-1])


if __name__ == "__main__":
    unittest.main()
