"""Points 8 and 9: the order of signs and of stories, a machine's faces, how many stories it has, wide machines."""

import itertools
import unittest

from mumtrial.errors import TooWide, TrialError
from mumtrial.faces import faces_of, how_many
from mumtrial.machines import Machine
from mumtrial.stories import face_of
from tests.plain import Plain
from tests.samples import kiosk, names, random_parts, two_rounds

HUSH = ("hush",)
COIN = ("ask", "coin")
CARD = ("ask", "card")
TEA = ("say", "tea")


class TheFaces(unittest.TestCase):
    def test_a_machine_of_one_face(self):
        self.assertEqual(faces_of(Machine(["a"], ["x"], ["r"], [])), [(("r",), [])])
        self.assertEqual(faces_of(Machine(["a"], ["x"], ["r", "s"], [("r", ("ask", "a"), "r")])), [(("r",), [])])
        still = Machine(["a"], ["x"], ["r", "s"], [("r", ("still",), "s"), ("s", ("say", "x"), "r")])
        self.assertEqual(faces_of(still), [(("r", "s"), [])])

    def test_each_with_its_first_story(self):
        self.assertEqual(faces_of(kiosk()), [
            (("hall",), []),
            (("pay", "brew", "back", "rest"), [COIN]),
            (("brew",), [CARD]),
            (("brew", "rest"), [COIN, COIN]),
            (("rest",), [COIN, HUSH]),
        ])

    def test_the_empty_face_is_none_of_them(self):
        for seed in range(40):
            for face, story in faces_of(Machine(*random_parts(seed))):
                self.assertNotEqual(face, ())

    def test_the_order_of_signs_asks_says_hush(self):
        doors = [("p", ("say", "x"), "q"), ("r", ("ask", "b"), "s"), ("p", ("say", "w"), "t"), ("r", ("ask", "a"), "u"),
                 ("v", ("still",), "p"), ("v", ("still",), "r")]
        for asks in (["a", "b"], ["b", "a"]):
            for says in (["w", "x"], ["x", "w"]):
                for turned in itertools.permutations(doors):
                    machine = Machine(asks, says, ["v", "t", "u", "s", "r", "q", "p"], list(turned))
                    goals = {"a": "u", "b": "s", "w": "t", "x": "q"}
                    self.assertEqual(faces_of(machine), [
                        (("v", "r", "p"), []), ((goals[asks[0]],), [("ask", asks[0])]),
                        ((goals[asks[1]],), [("ask", asks[1])]), ((goals[says[0]],), [("say", says[0])]),
                        ((goals[says[1]],), [("say", says[1])]), (("r",), [HUSH])])

    def test_the_shorter_ahead_then_the_first_sign_first(self):
        # c is come to by [b], and by [a, a]; d by [b, a] and [a, b]; e by [b, b] and by [a, a, a].
        doors = [("r", ("ask", "b"), "c"), ("r", ("ask", "a"), "f"), ("f", ("ask", "a"), "c"), ("f", ("ask", "b"), "d"),
                 ("c", ("ask", "a"), "d"), ("c", ("ask", "b"), "e"), ("d", ("ask", "a"), "e"), ("e", ("ask", "a"), "g")]
        a, b = ("ask", "a"), ("ask", "b")
        for rooms in itertools.permutations(["c", "d", "e", "f", "g"]):
            machine = Machine(["a", "b"], ["x"], ["r"] + list(rooms), doors[::-1])
            self.assertEqual(faces_of(machine), [
                (("r",), []), (("f",), [a]), (("c",), [b]), (("d",), [a, b]), (("e",), [b, b]), (("g",), [b, b, a])])

    def test_whatever_the_order_of_rooms_and_doors(self):
        for seed in range(30):
            asks, says, rooms, doors = random_parts(seed)
            told = [(set(face), story) for face, story in faces_of(Machine(asks, says, rooms, doors))]
            turned = Machine(asks, says, rooms[:1] + rooms[:0:-1], doors[::-1])
            self.assertEqual([(set(face), story) for face, story in faces_of(turned)], told)

    def test_against_all_short_stories(self):
        for seed in range(100):
            parts = random_parts(seed)
            plain = Plain(*parts)
            told = faces_of(Machine(*parts))
            firsts = {}
            for story, face in plain.stories(3).items():
                firsts.setdefault(face, list(story))
            short = [(face, story) for face, story in told if len(story) <= 3]
            self.assertEqual(short, list(firsts.items()), parts)
            self.assertEqual([story for face, story in told], sorted([s for f, s in told], key=plain.story_key))
            faces = [face for face, story in told]
            self.assertEqual(len(set(faces)), len(faces))
            for face, story in told:
                self.assertEqual(face_of(Machine(*parts), story), face)
                for sign in plain.signs():
                    self.assertIn(plain.behind(face, sign), faces + [()])

    def test_the_kinds_of_what_is_told(self):
        told = faces_of(kiosk())
        self.assertIs(type(told), list)
        for pair in told:
            self.assertIs(type(pair), tuple)
            self.assertEqual([type(thing) for thing in pair], [tuple, list])


class OwnLists(unittest.TestCase):
    def test_each_story_is_a_list_of_its_own(self):
        stories = [story for face, story in faces_of(kiosk())]
        self.assertEqual(len({id(story) for story in stories}), len(stories))

    def test_a_changed_one_changes_nothing_told_with_it_or_later(self):
        machine = kiosk()
        for number in range(5):
            told = faces_of(machine)
            told[number][1].append(TEA)
            told[number][1].insert(0, TEA)
            for other in range(5):
                if other != number:
                    self.assertEqual(told[other], faces_of(kiosk())[other])
            self.assertEqual(faces_of(machine), faces_of(kiosk()))
            told.clear()
            self.assertEqual(faces_of(machine), faces_of(kiosk()))


class HowMany(unittest.TestCase):
    def test_of_no_sign_there_is_one(self):
        for seed in range(30):
            self.assertEqual(how_many(Machine(*random_parts(seed)), 0), 1)

    def test_of_sixty_signs(self):
        self.assertEqual(how_many(Machine(["a"], ["x"], ["r"], []), 60), 1)
        loud = Machine(["a"], ["x", "y"], ["r"], [("r", ("say", "x"), "r"), ("r", ("say", "y"), "r")])
        self.assertEqual(how_many(loud, 60), 2 ** 60)
        all_signs = Machine(["a", "b", "c", "d"], ["w", "x", "y", "z"], ["r", "q"], [
            (room, (kind, word), "r") for kind, words in (("ask", "abcd"), ("say", "wxyz")) for word in words
            for room in ("r",)] + [("r", ("still",), "q"), ("q", ("ask", "a"), "r"), ("q", ("ask", "b"), "r"),
                                   ("q", ("ask", "c"), "r"), ("q", ("ask", "d"), "r")])
        # Behind hush one of the four asks or hush itself goes on.
        wide, hushed = 1, 1
        for turn in range(60):
            wide, hushed = 8 * wide + hushed, 4 * wide + hushed
        self.assertEqual(how_many(all_signs, 60), wide)

    def test_each_number_of_a_row_by_the_last_two(self):
        # At p hush stays, an ask leads to q; at q a say leads back to p.
        machine = Machine(["a"], ["x"], ["p", "q"], [("p", ("ask", "a"), "q"), ("q", ("say", "x"), "p")])
        one, other = 1, 2
        for n in range(61):
            self.assertEqual(how_many(machine, n), one)
            one, other = other, one + other
        self.assertEqual(how_many(machine, 60), 4052739537881)

    def test_against_all_short_stories(self):
        for seed in range(60):
            parts = random_parts(seed)
            stories = Plain(*parts).stories(4)
            for n in range(5):
                self.assertEqual(how_many(Machine(*parts), n), len([s for s in stories if len(s) == n]), (parts, n))

    def test_somewhat_beyond_is_not_refused(self):
        machine = Machine(["a"], ["x"], ["p", "q"], [("p", ("ask", "a"), "q"), ("q", ("say", "x"), "p")])
        self.assertEqual(how_many(machine, 61), how_many(machine, 60) + how_many(machine, 59))
        self.assertEqual(how_many(machine, 200), how_many(machine, 199) + how_many(machine, 198))
        self.assertEqual(how_many(machine, -1), 0)

    def test_it_is_a_whole_number(self):
        self.assertIs(type(how_many(kiosk(), 0)), int)
        self.assertIs(type(how_many(kiosk(), 7)), int)


class Wide(unittest.TestCase):
    def test_just_400_faces(self):
        machine = two_rounds(19, 21)
        told = faces_of(machine)
        self.assertEqual(len(told), 400)
        self.assertEqual([story for face, story in told], [[("ask", "a")] * n for n in range(400)])
        self.assertEqual(how_many(machine, 60), 2 ** 60)

    def test_just_401_faces(self):
        machine = two_rounds(16, 25)
        for ask in (lambda: faces_of(machine), lambda: how_many(machine, 0), lambda: how_many(machine, 60)):
            with self.assertRaises(TooWide):
                ask()

    def test_far_more_faces(self):
        # Behind n asks the face tells which of the last rooms were begun from: as many as there are sets of rooms.
        rooms = names(150)
        doors = [(start, ("ask", "a"), goal) for start, goal in zip(rooms, rooms[1:])]
        doors += [(start, ("ask", "b"), goal) for start, goal in zip(rooms, rooms[1:])]
        doors += [(rooms[0], ("ask", "a"), rooms[0]), (rooms[0], ("ask", "b"), rooms[0]), (rooms[0], ("say", "x"), rooms[0])]
        doors = [door for door in doors if door != (rooms[0], ("ask", "b"), rooms[1])]
        with self.assertRaises(TooWide):
            faces_of(Machine(["a", "b"], ["x"], rooms, doors))

    def test_many_rooms_make_no_machine_wide(self):
        rooms = names(150)
        machine = Machine(["a"], ["x"], rooms, [(s, ("ask", "a"), g) for s, g in zip(rooms, rooms[1:])])
        self.assertEqual(faces_of(machine), [((room,), [("ask", "a")] * n) for n, room in enumerate(rooms)])

    def test_the_refusal_changes_nothing(self):
        machine = two_rounds(16, 25)
        for turn in range(2):
            with self.assertRaises(TooWide) as caught:
                faces_of(machine)
            self.assertIsInstance(caught.exception, TrialError)
        self.assertEqual(face_of(machine, [("ask", "a")]), ("inaa", "outaa"))
        self.assertEqual(len(faces_of(two_rounds(3, 4))), 13)


if __name__ == "__main__":
    unittest.main()
