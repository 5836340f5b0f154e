"""Points 7 and 8: faces, stories, what may come, what is foreseen."""

import itertools
import unittest

from mumtrial.machines import Machine
from mumtrial.stories import face_behind, face_of, first_face, foreseen, is_story, may_come
from tests.plain import Plain
from tests.samples import kiosk, names, random_parts

HUSH = ("hush",)
COIN = ("ask", "coin")
CARD = ("ask", "card")
TEA = ("say", "tea")
MILK = ("say", "milk")


class FirstFace(unittest.TestCase):
    def test_the_first_room_alone(self):
        self.assertEqual(first_face(kiosk()), ("hall",))
        self.assertEqual(first_face(Machine(["a"], ["x"], ["r"], [])), ("r",))

    def test_it_is_the_first_of_the_list_not_of_the_doors(self):
        machine = Machine(["a"], ["x"], ["q", "p"], [("p", ("still",), "q"), ("q", ("ask", "a"), "p")])
        self.assertEqual(first_face(machine), ("q",))

    def test_still_doors_in_a_row_and_from_one_room(self):
        machine = Machine(["a"], ["x"], ["p", "t", "s", "r", "q", "u"], [
            ("r", ("still",), "s"), ("p", ("still",), "q"), ("q", ("still",), "r"), ("p", ("still",), "t"),
            ("u", ("still",), "p"), ("t", ("still",), "s"), ("s", ("ask", "a"), "u")])
        self.assertEqual(first_face(machine), ("p", "t", "s", "r", "q"))

    def test_other_doors_do_not_lead_on(self):
        machine = Machine(["a"], ["x"], ["p", "q", "r"], [("p", ("ask", "a"), "q"), ("p", ("say", "x"), "r")])
        self.assertEqual(first_face(machine), ("p",))

    def test_a_chain_of_150_rooms(self):
        rooms = names(150)
        doors = [(start, ("still",), goal) for start, goal in zip(rooms, rooms[1:])]
        self.assertEqual(first_face(Machine(["a"], ["x"], rooms, doors)), tuple(rooms))
        back = [rooms[0]] + rooms[:0:-1]
        self.assertEqual(first_face(Machine(["a"], ["x"], back, doors)), tuple(back))


class FaceBehindASign(unittest.TestCase):
    def test_behind_an_ask(self):
        machine = kiosk()
        self.assertEqual(face_behind(machine, ("hall",), COIN), ("pay", "brew", "back", "rest"))
        self.assertEqual(face_behind(machine, ("hall",), CARD), ("brew",))
        self.assertEqual(face_behind(machine, ("pay", "brew", "back", "rest"), COIN), ("brew", "rest"))
        self.assertEqual(face_behind(machine, ("pay", "brew", "back", "rest"), CARD), ())

    def test_behind_a_say(self):
        machine = kiosk()
        self.assertEqual(face_behind(machine, ("pay", "brew"), TEA), ("hall",))
        self.assertEqual(face_behind(machine, ("hall", "pay"), TEA), ())

    def test_the_still_doors_of_the_face_itself_are_not_taken_first(self):
        machine = kiosk()
        self.assertEqual(face_behind(machine, ("pay",), TEA), ())
        self.assertEqual(face_behind(machine, ("pay",), COIN), ())

    def test_in_the_order_of_the_list_and_each_room_once(self):
        doors = [("p", ("ask", "a"), "s"), ("p", ("ask", "a"), "q"), ("q", ("ask", "a"), "s"), ("s", ("still",), "r"),
                 ("q", ("still",), "r"), ("q", ("ask", "a"), "p"), ("r", ("ask", "a"), "r")]
        for rooms in itertools.permutations(["p", "q", "r", "s"]):
            for turned in (doors, doors[::-1], doors[3:] + doors[:3]):
                machine = Machine(["a"], ["x"], list(rooms), turned)
                face = tuple(room for room in rooms if room in "pq")
                self.assertEqual(face_behind(machine, face, ("ask", "a")), rooms)

    def test_behind_hush(self):
        machine = kiosk()
        self.assertEqual(face_behind(machine, ("hall",), HUSH), ("hall",))
        self.assertEqual(face_behind(machine, ("hall", "pay", "brew", "back", "rest"), HUSH), ("hall", "rest"))
        self.assertEqual(face_behind(machine, ("pay", "brew", "back"), HUSH), ())

    def test_hush_twice_is_hush_once(self):
        machine = kiosk()
        once = face_behind(machine, ("hall", "pay", "brew", "back", "rest"), HUSH)
        self.assertEqual(face_behind(machine, once, HUSH), once)

    def test_behind_the_empty_face(self):
        for sign in (COIN, CARD, TEA, MILK, HUSH, ("ask", "none"), ("say", "")):
            self.assertEqual(face_behind(kiosk(), (), sign), ())

    def test_words_that_the_machine_has_not_or_in_its_other_list(self):
        face = ("hall", "pay", "brew", "back", "rest")
        for sign in (("ask", "bill"), ("say", "soup"), ("ask", "tea"), ("say", "coin"), ("ask", ""), ("say", "\n"),
                     ("ask", "hush"), ("say", "hush"), ("say", "still"), ("ask", "still"), ("ask", "Coin")):
            self.assertEqual(face_behind(kiosk(), face, sign), (), sign)

    def test_words_called_like_kinds_of_signs(self):
        machine = Machine(["hush", "say"], ["still", "ask"], ["p", "q", "r", "s"], [
            ("p", ("ask", "hush"), "q"), ("q", ("say", "still"), "r"), ("r", ("ask", "say"), "s"),
            ("s", ("say", "ask"), "p")])
        self.assertEqual(face_behind(machine, ("p",), ("ask", "hush")), ("q",))
        self.assertEqual(face_behind(machine, ("p",), HUSH), ("p",))
        self.assertEqual(face_behind(machine, ("q",), ("say", "still")), ("r",))
        self.assertEqual(face_of(machine, [("ask", "hush"), ("say", "still"), ("ask", "say"), ("say", "ask")]), ("p",))


class Stories(unittest.TestCase):
    def test_the_empty_story(self):
        self.assertEqual(face_of(kiosk(), []), ("hall",))
        self.assertIs(is_story(kiosk(), []), True)

    def test_sign_by_sign(self):
        machine = kiosk()
        self.assertEqual(face_of(machine, [COIN]), ("pay", "brew", "back", "rest"))
        self.assertEqual(face_of(machine, [HUSH, COIN, TEA, HUSH]), ("hall",))
        self.assertEqual(face_of(machine, [COIN, HUSH]), ("rest",))
        self.assertEqual(face_of(machine, [COIN, HUSH, HUSH, COIN]), ("rest",))

    def test_silence_tells_rooms_apart(self):
        machine = kiosk()
        self.assertIs(is_story(machine, [COIN, COIN, TEA]), True)
        self.assertIs(is_story(machine, [COIN, HUSH, COIN, TEA]), False)
        self.assertIs(is_story(machine, [CARD, HUSH]), False)

    def test_what_is_no_story_never_comes_to_be_one(self):
        machine = kiosk()
        for more in ([], [HUSH], [COIN], [COIN, MILK]):
            self.assertIs(is_story(machine, [TEA] + more), False)
            self.assertEqual(face_of(machine, [TEA] + more), ())

    def test_words_that_are_not_the_machines(self):
        for sign in (("ask", "bill"), ("say", "soup"), ("ask", "tea"), ("say", "coin")):
            self.assertIs(is_story(kiosk(), [sign]), False)
            self.assertIs(is_story(kiosk(), [COIN, sign]), False)


class WhatMayCome(unittest.TestCase):
    def test_says_in_their_order_hush_last(self):
        machine = kiosk()
        self.assertEqual(may_come(machine, ("brew",)), [TEA, MILK])
        self.assertEqual(may_come(machine, ("hall",)), [HUSH])
        self.assertEqual(may_come(machine, ("hall", "brew")), [TEA, MILK, HUSH])
        self.assertEqual(may_come(machine, ("pay", "brew", "back", "rest")), [TEA, MILK, HUSH])

    def test_in_the_order_of_says_whatever_the_doors(self):
        doors = [("p", ("say", "x"), "p"), ("q", ("say", "z"), "p"), ("q", ("say", "y"), "q"), ("q", ("say", "x"), "q")]
        for says in itertools.permutations(["x", "y", "z"]):
            for turned in (doors, doors[::-1]):
                machine = Machine(["a"], list(says), ["p", "q", "r"], turned)
                self.assertEqual(may_come(machine, ("p", "q")), [("say", say) for say in says])
                self.assertEqual(may_come(machine, ("p", "q", "r")), [("say", say) for say in says] + [HUSH])
                self.assertEqual(may_come(machine, ("p", "r")), [("say", "x"), HUSH])

    def test_a_room_with_still_doors_alone_brings_nothing(self):
        self.assertEqual(may_come(kiosk(), ("pay", "back")), [])

    def test_the_empty_face(self):
        self.assertEqual(may_come(kiosk(), ()), [])
        self.assertEqual(foreseen(kiosk(), ()), [])

    def test_foreseen_in_the_order_of_asks(self):
        machine = kiosk()
        self.assertEqual(foreseen(machine, ("hall",)), ["coin", "card"])
        self.assertEqual(foreseen(machine, ("brew", "rest")), ["coin"])
        self.assertEqual(foreseen(machine, ("pay", "back")), [])

    def test_foreseen_in_the_order_of_asks_whatever_the_doors(self):
        doors = [("p", ("ask", "a"), "p"), ("q", ("ask", "c"), "p"), ("q", ("ask", "b"), "q"), ("q", ("ask", "a"), "q")]
        for asks in itertools.permutations(["a", "b", "c", "d"]):
            for turned in (doors, doors[::-1]):
                machine = Machine(list(asks), ["x"], ["p", "q"], turned)
                self.assertEqual(foreseen(machine, ("p", "q")), [ask for ask in asks if ask != "d"])
                self.assertEqual(foreseen(machine, ("p",)), ["a"])


class AgainstThePlainWords(unittest.TestCase):
    def test_all_faces_of_small_machines(self):
        for seed in range(120):
            parts = random_parts(seed)
            machine, plain = Machine(*parts), Plain(*parts)
            asks, says, rooms = parts[:3]
            signs = [(kind, word) for kind in ("ask", "say") for word in asks + says + ["other"]] + [HUSH]
            self.assertEqual(first_face(machine), plain.face(rooms[:1]))
            for count in range(len(rooms) + 1):
                for face in itertools.combinations(rooms, count):
                    self.assertEqual(may_come(machine, face), plain.coming(face), (parts, face))
                    self.assertEqual(foreseen(machine, face), plain.asks_at(face), (parts, face))
                    for sign in signs:
                        self.assertEqual(face_behind(machine, face, sign), plain.behind(face, sign), (parts, face, sign))

    def test_all_short_stories_of_small_machines(self):
        for seed in range(200, 260):
            parts = random_parts(seed)
            machine, plain = Machine(*parts), Plain(*parts)
            signs = [("ask", a) for a in parts[0]] + [("say", w) for w in parts[1]] + [HUSH]
            faces = {(): plain.face(parts[2][:1])}
            for length in range(1, 4):
                for story in itertools.product(signs, repeat=length):
                    faces[story] = plain.behind(faces[story[:-1]], story[-1])
            for story, face in faces.items():
                self.assertEqual(face_of(machine, list(story)), face, (parts, story))
                self.assertIs(is_story(machine, list(story)), face != (), (parts, story))
                if face != ():
                    self.assertNotEqual(may_come(machine, face), [], (parts, story))


if __name__ == "__main__":
    unittest.main()
