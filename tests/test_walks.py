"""Point 12: walks, told and judged."""

import itertools
import random
import unittest

from mumtrial.machines import Machine
from mumtrial.stories import is_story
from mumtrial.walks import is_walk, walk_of
from tests.plain import Plain
from tests.samples import kiosk, names, random_parts

HUSH = ("hush",)
STILL = ("still",)
COIN = ("ask", "coin")
CARD = ("ask", "card")
TEA = ("say", "tea")
A = ("ask", "a")
X = ("say", "x")


class Told(unittest.TestCase):
    def test_without_signs(self):
        self.assertEqual(walk_of(kiosk(), []), [])

    def test_by_asks_says_and_hush(self):
        self.assertEqual(walk_of(kiosk(), [CARD, TEA]), [("hall", CARD, "brew"), ("brew", TEA, "hall")])
        self.assertEqual(walk_of(kiosk(), [HUSH, HUSH]), [("hall", HUSH, "hall"), ("hall", HUSH, "hall")])

    def test_still_steps_between(self):
        self.assertEqual(walk_of(kiosk(), [COIN, TEA]), [
            ("hall", COIN, "pay"), ("pay", STILL, "brew"), ("brew", TEA, "hall")])
        self.assertEqual(walk_of(kiosk(), [COIN, HUSH, COIN]), [
            ("hall", COIN, "pay"), ("pay", STILL, "back"), ("back", STILL, "rest"), ("rest", HUSH, "rest"),
            ("rest", COIN, "rest")])

    def test_still_steps_in_front(self):
        machine = Machine(["a"], ["x"], ["p", "q", "r"], [("p", STILL, "q"), ("q", STILL, "r"), ("r", A, "p")])
        self.assertEqual(walk_of(machine, [A]), [("p", STILL, "q"), ("q", STILL, "r"), ("r", A, "p")])
        self.assertEqual(walk_of(machine, [HUSH]), [("p", STILL, "q"), ("q", STILL, "r"), ("r", HUSH, "r")])

    def test_none_of_what_is_no_story(self):
        for story in ([TEA], [CARD, HUSH], [COIN, HUSH, TEA], [("ask", "tea")], [("say", "coin")], [("ask", "")],
                      [CARD, TEA, TEA, CARD], [("say", "hush")]):
            self.assertIsNone(walk_of(kiosk(), story))

    def test_a_way_that_ends_in_a_blind_room_is_not_taken(self):
        machine = Machine(["a"], ["x"], ["p", "s", "q", "r"], [("p", A, "q"), ("p", A, "r"), ("p", A, "s"), ("r", X, "p")])
        self.assertEqual(walk_of(machine, [A, X]), [("p", A, "r"), ("r", X, "p")])

    def test_a_long_story(self):
        story = [COIN, HUSH, HUSH] + [COIN] * 3000
        self.assertIs(is_walk(kiosk(), story, walk_of(kiosk(), story)), True)
        self.assertIsNone(walk_of(kiosk(), story + [CARD]))

    def test_a_chain_of_still_doors(self):
        rooms = names(150)
        machine = Machine(["a"], ["x"], rooms, [(s, STILL, g) for s, g in zip(rooms, rooms[1:])] + [(rooms[-1], A, "aa")])
        walk = walk_of(machine, [A, A])
        self.assertEqual(len(walk), 300)
        self.assertIs(is_walk(machine, [A, A], walk), True)

    def test_of_each_short_story_and_of_no_other_one(self):
        for seed in range(80):
            parts = random_parts(seed)
            machine, plain = Machine(*parts), Plain(*parts)
            stories = plain.stories(3)
            for length in range(4):
                for story in itertools.product(plain.signs()[:7], repeat=length):
                    walk = walk_of(machine, list(story))
                    self.assertEqual(walk is not None, story in stories, (parts, story))
                    if walk is not None:
                        self.assertTrue(plain.is_walk(story, walk), (parts, story, walk))
                        self.assertIs(is_walk(machine, list(story), walk), True)

    def test_its_kind(self):
        walk = walk_of(kiosk(), [COIN, HUSH])
        self.assertIs(type(walk), list)
        for step in walk:
            self.assertIs(type(step), tuple)
            self.assertEqual([type(thing) for thing in step], [str, tuple, str])


class Judged(unittest.TestCase):
    def judged(self, story, walk):
        told = is_walk(kiosk(), story, walk)
        self.assertIs(type(told), bool)
        return told

    def test_the_walk_without_steps(self):
        self.assertIs(self.judged([], []), True)
        self.assertIs(self.judged([COIN], []), False)
        self.assertIs(self.judged([HUSH], []), False)

    def test_each_kind_of_step(self):
        walk = [("hall", COIN, "pay"), ("pay", STILL, "back"), ("back", STILL, "rest"), ("rest", HUSH, "rest"),
                ("rest", COIN, "rest")]
        self.assertIs(self.judged([COIN, HUSH, COIN], walk), True)
        self.assertIs(self.judged([CARD, TEA], [("hall", CARD, "brew"), ("brew", TEA, "hall")]), True)

    def test_still_steps_at_the_end(self):
        walk = [("hall", COIN, "pay"), ("pay", STILL, "back"), ("back", STILL, "rest")]
        for count in (1, 2, 3):
            self.assertIs(self.judged([COIN], walk[:count]), True)

    def test_still_steps_in_front(self):
        machine = Machine(["a"], ["x"], ["p", "q", "r"], [("p", STILL, "q"), ("q", STILL, "r"), ("r", A, "p"), ("p", A, "p")])
        walk = [("p", STILL, "q"), ("q", STILL, "r"), ("r", A, "p")]
        self.assertIs(is_walk(machine, [A], walk), True)
        self.assertIs(is_walk(machine, [], walk[:2]), True)
        self.assertIs(is_walk(machine, [A], walk[1:]), False)
        self.assertIs(is_walk(machine, [A], walk[:1] + walk[2:]), False)
        self.assertIs(is_walk(machine, [A], [("p", A, "p")]), True)

    def test_hush_at_a_room_that_is_not_quiet(self):
        self.assertIs(self.judged([CARD, HUSH], [("hall", CARD, "brew"), ("brew", HUSH, "brew")]), False)
        self.assertIs(self.judged([COIN, HUSH], [("hall", COIN, "pay"), ("pay", HUSH, "pay")]), False)

    def test_hush_that_leads_elsewhere(self):
        self.assertIs(self.judged([HUSH], [("hall", HUSH, "rest")]), False)
        self.assertIs(self.judged([HUSH], [("hall", HUSH, "hall")]), True)
        self.assertIs(self.judged([HUSH], [("hall", HUSH, "none")]), False)

    def test_the_first_step_from_another_room(self):
        self.assertIs(self.judged([COIN], [("brew", COIN, "brew")]), False)
        self.assertIs(self.judged([HUSH], [("rest", HUSH, "rest")]), False)

    def test_steps_that_do_not_hang_together(self):
        self.assertIs(self.judged([COIN, TEA], [("hall", COIN, "pay"), ("brew", TEA, "hall")]), False)
        self.assertIs(self.judged([CARD, COIN], [("hall", CARD, "brew"), ("rest", COIN, "rest")]), False)
        self.assertIs(self.judged([CARD, COIN], [("hall", CARD, "brew"), ("hall", COIN, "pay")]), False)

    def test_rooms_words_and_signs_that_the_machine_has_not(self):
        for step in (("hall", COIN, "none"), ("none", COIN, "pay"), ("hall", ("ask", "bill"), "pay"),
                     ("hall", ("say", "coin"), "pay"), ("hall", ("ask",), "pay"), ("hall", ("coin",), "pay"),
                     ("hall", ("hush", "coin"), "hall"), ("hall", ("still", "x"), "hall"), ("hall", STILL, "pay"),
                     ("hall", STILL, "hall"), ("none", HUSH, "none"), ("hall", ("coin", "ask"), "pay"),
                     ("hall", COIN, "brew"), ("hall", CARD, "pay"), ("pay", COIN, "hall"), ("", ("",), "")):
            for story in ([COIN], [step[1]], []):
                self.assertIs(self.judged(story, [step]), False, step)

    def test_the_last_step_counts_too(self):
        walk = [("hall", CARD, "brew"), ("brew", TEA, "pay")]
        self.assertIs(self.judged([CARD, TEA], walk), False)

    def test_a_story_of_one_sign_more_or_fewer_or_another_one(self):
        walk = [("hall", COIN, "pay"), ("pay", STILL, "brew"), ("brew", TEA, "hall"), ("hall", HUSH, "hall")]
        self.assertIs(self.judged([COIN, TEA, HUSH], walk), True)
        for story in ([COIN, TEA], [TEA, HUSH], [COIN, HUSH], [COIN, TEA, HUSH, HUSH], [COIN, TEA, HUSH, COIN],
                      [HUSH, COIN, TEA, HUSH], [COIN, HUSH, TEA], [CARD, TEA, HUSH], [], [COIN, ("say", "milk"), HUSH]):
            self.assertIs(self.judged(story, walk), False, story)

    def test_silence_can_not_be_left_out_of_the_story(self):
        walk = [("hall", HUSH, "hall"), ("hall", COIN, "pay")]
        self.assertIs(self.judged([COIN], walk), False)
        self.assertIs(self.judged([HUSH, COIN], walk), True)

    def test_words_called_like_kinds_of_signs(self):
        machine = Machine(["still", "hush"], ["say"], ["p"], [("p", ("ask", "still"), "p"), ("p", ("ask", "hush"), "p")])
        walk = [("p", ("ask", "still"), "p"), ("p", ("ask", "hush"), "p"), ("p", HUSH, "p")]
        self.assertIs(is_walk(machine, [("ask", "still"), ("ask", "hush"), HUSH], walk), True)
        self.assertIs(is_walk(machine, [("ask", "hush"), HUSH], walk), False)

    def test_bent_walks_against_the_plain_words(self):
        counts = {True: 0, False: 0}
        for seed in range(300):
            parts = random_parts(seed)
            asks, says, rooms, doors = parts
            machine, plain = Machine(*parts), Plain(*parts)
            chance = random.Random(seed)
            steps = doors + [(room, HUSH, goal) for room in rooms for goal in rooms]
            for turn in range(20):
                here, walk = rooms[0], []
                for length in range(chance.randrange(5)):
                    onward = [step for step in steps if step[0] == here]
                    step = chance.choice(onward if chance.random() < 0.9 else steps)
                    walk.append(step)
                    here = step[2]
                story = [sign for start, sign, goal in walk if sign != STILL]
                if chance.random() < 0.2:
                    story = story[1:] + [chance.choice(plain.signs())]
                so = plain.is_walk(story, walk)
                self.assertIs(is_walk(machine, story, walk), so, (parts, story, walk))
                self.assertTrue(is_story(machine, story) or not so)
                counts[so] += 1
        self.assertGreater(min(counts.values()), 500)


class OwnThings(unittest.TestCase):
    def test_nothing_handed_in_is_changed(self):
        story, walk = [COIN, TEA], walk_of(kiosk(), [COIN, TEA])
        twins = (list(story), list(walk))
        walk_of(kiosk(), story)
        is_walk(kiosk(), story, walk)
        self.assertEqual((story, walk), twins)

    def test_a_changed_walk_changes_nothing_told_later(self):
        machine = kiosk()
        for turn in range(3):
            walk = walk_of(machine, [COIN, TEA])
            self.assertEqual(len(walk), 3)
            walk.clear()


if __name__ == "__main__":
    unittest.main()
