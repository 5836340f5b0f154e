"""Points 4, 5 and 6: names, machines and what is none, quiet rooms."""

import random
import unittest

from mumtrial.errors import NoMachine
from mumtrial.machines import Machine
from tests.samples import kiosk, kiosk_parts, names, random_parts, refusal

NO_NAMES = [
    "", "abcdefghi", "a" * 500, "A", "aB", "Z", "a1", "1", "0", " ", "a b", " a", "a ", "\t", "a\t", "\n", "a\n",
    "\na", "a\nb", "a_b", "_", "a-b", "a.b", "a'b", "`", "{", "@", "[", "~", "a,b", "ab!",
]
NAMES = ["a", "z", "m", "abcdefgh", "zzzzzzzz", "ask", "say", "still", "hush", "end"]


def in_part(part, number, name):
    """The parts of a machine, all so, but that the name stands in this part at this number."""
    parts = {"asks": ["c", "d"], "says": ["x", "y"], "rooms": ["p", "q"]}
    parts[part][number] = name
    return (parts["asks"], parts["says"], parts["rooms"], [])


class Names(unittest.TestCase):
    def test_names_are_taken_in_each_part(self):
        for part in ("asks", "says", "rooms"):
            for number in (0, 1):
                for name in NAMES:
                    with self.subTest(part=part, number=number, name=name):
                        self.assertIsNone(refusal(*in_part(part, number, name)))

    def test_what_is_no_name_is_refused_in_each_part(self):
        for part in ("asks", "says", "rooms"):
            for number in (0, 1):
                for name in NO_NAMES:
                    with self.subTest(part=part, number=number, name=name):
                        self.assertEqual(refusal(*in_part(part, number, name)), (part, number))

    def test_each_sign_by_itself_is_a_name_just_where_it_is_a_small_letter(self):
        for sign in [chr(code) for code in range(ord(" "), ord("~") + 1)] + ["\t", "\n"]:
            expected = None if "a" <= sign <= "z" else ("rooms", 0)
            self.assertEqual(refusal(["a"], ["x"], [sign], []), expected)
            self.assertEqual(refusal(["a"], ["x"], ["a" + sign + "a"], []), expected)

    def test_each_length(self):
        for length in range(12):
            expected = None if 1 <= length <= 8 else ("rooms", 0)
            self.assertEqual(refusal(["a"], ["x"], ["r" * length], []), expected)

    def test_rooms_and_words_may_bear_the_same_names(self):
        self.assertIsNone(refusal(["a"], ["x"], ["a", "x"], [("a", ("ask", "a"), "x"), ("x", ("say", "x"), "a")]))


class Words(unittest.TestCase):
    def test_one_to_four_asks(self):
        words = ["a", "b", "c", "d", "e", "f"]
        expected = [("asks", 0), None, None, None, None, ("asks", 4), ("asks", 4)]
        self.assertEqual([refusal(words[:n], ["x"], ["r"], []) for n in range(7)], expected)

    def test_one_to_four_says(self):
        words = ["x", "y", "z", "v", "w", "u"]
        expected = [("says", 0), None, None, None, None, ("says", 4), ("says", 4)]
        self.assertEqual([refusal(["a"], words[:n], ["r"], []) for n in range(7)], expected)

    def test_doubles(self):
        self.assertEqual(refusal(["a", "a"], ["x"], ["r"], []), ("asks", 1))
        self.assertEqual(refusal(["a", "b", "c", "a"], ["x"], ["r"], []), ("asks", 3))
        self.assertEqual(refusal(["a", "b", "b", "a"], ["x"], ["r"], []), ("asks", 2))
        self.assertEqual(refusal(["a"], ["x", "y", "x"], ["r"], []), ("says", 2))
        self.assertEqual(refusal(["a"], ["x", "x", "x"], ["r"], []), ("says", 1))

    def test_a_say_that_is_an_ask(self):
        self.assertEqual(refusal(["a"], ["a"], ["r"], []), ("says", 0))
        self.assertEqual(refusal(["a", "b"], ["x", "y", "b"], ["r"], []), ("says", 2))
        self.assertEqual(refusal(["a", "b", "c", "d"], ["x", "d", "x"], ["r"], []), ("says", 1))

    def test_the_first_wrong_word_is_told_not_the_length(self):
        self.assertEqual(refusal(["a", "B", "c", "d", "e"], ["x"], ["r"], []), ("asks", 1))
        self.assertEqual(refusal(["a", "b", "c", "c", "e"], ["x"], ["r"], []), ("asks", 3))
        self.assertEqual(refusal(["a"], ["x", "y", "z", "a", "u"], ["r"], []), ("says", 3))

    def test_the_fifth_is_told_whatever_it_is(self):
        for fifth in ("e", "a", "", "E"):
            self.assertEqual(refusal(["a", "b", "c", "d", fifth], ["x"], ["r"], []), ("asks", 4))
            self.assertEqual(refusal(["g"], ["v", "x", "y", "z", fifth], ["r"], []), ("says", 4))


class Rooms(unittest.TestCase):
    def test_one_to_150(self):
        for count, expected in ((0, ("rooms", 0)), (1, None), (149, None), (150, None), (151, ("rooms", 150)),
                                (400, ("rooms", 150))):
            self.assertEqual(refusal(["a"], ["x"], names(count), []), expected)

    def test_doubles(self):
        self.assertEqual(refusal(["a"], ["x"], ["p", "q", "p"], []), ("rooms", 2))
        self.assertEqual(refusal(["a"], ["x"], names(149) + ["aa"], []), ("rooms", 149))

    def test_the_first_wrong_room_is_told_not_the_length(self):
        rooms = names(160)
        rooms[140] = rooms[3]
        self.assertEqual(refusal(["a"], ["x"], rooms, []), ("rooms", 140))
        rooms[77] = "Room"
        self.assertEqual(refusal(["a"], ["x"], rooms, []), ("rooms", 77))

    def test_the_151st_is_told_whatever_it_is(self):
        for last in ("aa", "", "R"):
            self.assertEqual(refusal(["a"], ["x"], names(150) + [last], []), ("rooms", 150))


def with_doors(doors):
    return refusal(["a", "b"], ["x", "y"], ["p", "q"], doors)


class Doors(unittest.TestCase):
    def test_none_and_all_kinds(self):
        self.assertIsNone(with_doors([]))
        self.assertIsNone(with_doors([("p", ("ask", "a"), "q"), ("p", ("say", "x"), "q"), ("p", ("still",), "q")]))
        self.assertIsNone(with_doors([("p", ("ask", "b"), "p"), ("q", ("say", "y"), "q")]))

    def test_wrong_doors(self):
        wrong = [
            ("r", ("ask", "a"), "p"), ("p", ("ask", "a"), "r"), ("", ("still",), "p"), ("p", ("still",), "P"),
            ("p", ("ask", "c"), "q"), ("p", ("say", "z"), "q"), ("p", ("ask", "x"), "q"), ("p", ("say", "a"), "q"),
            ("p", ("ask", ""), "q"), ("p", ("ask",), "q"), ("p", ("say",), "q"), ("p", ("still", "a"), "q"),
            ("p", ("still", "x"), "q"), ("p", ("still", ""), "q"), ("p", ("still", "still"), "q"),
            ("p", ("hush",), "p"), ("p", ("hush",), "q"), ("p", ("a",), "q"), ("p", ("x", "x"), "q"),
            ("p", ("Ask", "a"), "q"), ("p", ("ask ", "a"), "q"), ("p", ("a", "ask"), "q"), ("p", ("",), "q"),
            ("p", ("ask", "a", "b"), "q"), ("p", ("say", "x", "y"), "q"), ("p", ("ask", "p"), "q"),
            ("a", ("ask", "a"), "q"), ("p", ("tell", "a"), "q"), ("p", ("", ""), "q"),
        ]
        right = [("p", ("ask", "a"), "q"), ("q", ("say", "x"), "p"), ("p", ("still",), "q")]
        for door in wrong:
            for number in range(4):
                with self.subTest(door=door, number=number):
                    self.assertEqual(with_doors(right[:number] + [door] + right[number:]), ("doors", number))

    def test_doors_there_twice(self):
        door = ("p", ("ask", "a"), "q")
        self.assertEqual(with_doors([door, door]), ("doors", 1))
        self.assertEqual(with_doors([("p", ("still",), "q"), door, ("p", ("still",), "q")]), ("doors", 2))
        self.assertEqual(with_doors([door, ("p", ("ask", "a"), "p"), ("q", ("ask", "a"), "q"),
                                     ("p", ("ask", "b"), "q"), ("p", ("say", "x"), "q"), door]), ("doors", 5))

    def test_the_first_of_several_is_told(self):
        door = ("p", ("ask", "a"), "q")
        self.assertEqual(with_doors([door, ("r", ("still",), "p"), door]), ("doors", 1))
        self.assertEqual(with_doors([door, door, ("r", ("still",), "p")]), ("doors", 1))

    def test_at_most_2000(self):
        rooms = names(60)
        doors = [(start, ("ask", "a"), goal) for start in rooms for goal in rooms]
        self.assertIsNone(refusal(["a"], ["x"], rooms, doors[:1999]))
        self.assertIsNone(refusal(["a"], ["x"], rooms, doors[:2000]))
        for more in (doors[2000:2001], doors[2000:], doors[:1], [("no", ("room",), "here")]):
            self.assertEqual(refusal(["a"], ["x"], rooms, doors[:2000] + more), ("doors", 2000))

    def test_the_first_wrong_door_is_told_not_the_length(self):
        rooms = names(60)
        doors = [(start, ("say", "x"), goal) for start in rooms for goal in rooms]
        doors[1999] = doors[1000]
        self.assertEqual(refusal(["a"], ["x"], rooms, doors), ("doors", 1999))
        doors[17] = (rooms[0], ("say", "a"), rooms[0])
        self.assertEqual(refusal(["a"], ["x"], rooms, doors), ("doors", 17))


def with_still(rooms, pairs):
    return refusal(["a"], ["x"], rooms, [(start, ("still",), goal) for start, goal in pairs])


def rounds_by_squaring(rooms, pairs):
    """The first number of a room that reaches itself, found by widening the relation, not by walking it."""
    reach = set(pairs)
    while True:
        wider = reach | {(p, s) for p, q in reach for r, s in reach if q == r}
        if wider == reach:
            break
        reach = wider
    around = [number for number, room in enumerate(rooms) if (room, room) in reach]
    return ("still", around[0]) if around else None


class StillDoors(unittest.TestCase):
    def test_round_by_one_door(self):
        self.assertEqual(with_still(["p"], [("p", "p")]), ("still", 0))
        self.assertEqual(with_still(["p", "q", "r"], [("r", "r")]), ("still", 2))

    def test_round_by_many(self):
        self.assertEqual(with_still(["p", "q"], [("q", "p"), ("p", "q")]), ("still", 0))
        self.assertEqual(with_still(["p", "q", "r", "s"], [("r", "s"), ("s", "q"), ("q", "r")]), ("still", 1))

    def test_a_room_that_leads_to_a_round_or_from_one_is_not_told(self):
        self.assertEqual(with_still(["p", "q", "r"], [("p", "q"), ("q", "r"), ("r", "q")]), ("still", 1))
        self.assertEqual(with_still(["p", "q", "r"], [("q", "p"), ("q", "r"), ("r", "q")]), ("still", 1))
        self.assertEqual(with_still(["p", "q", "r"], [("p", "r"), ("q", "r"), ("r", "r")]), ("still", 2))

    def test_the_first_of_several_rounds_by_rooms_not_by_doors(self):
        self.assertEqual(with_still(["p", "q", "r", "s"], [("s", "s"), ("r", "r"), ("q", "q")]), ("still", 1))

    def test_many_ways_to_one_room_are_no_round(self):
        self.assertIsNone(with_still(["p", "q", "r", "s"],
                                     [("p", "q"), ("p", "r"), ("q", "s"), ("r", "s"), ("p", "s"), ("q", "r")]))

    def test_rounds_with_other_doors_in_them_are_none(self):
        self.assertIsNone(refusal(["a"], ["x"], ["p", "q"], [("p", ("still",), "q"), ("q", ("ask", "a"), "p")]))
        self.assertIsNone(refusal(["a"], ["x"], ["p", "q"], [("p", ("still",), "q"), ("q", ("say", "x"), "p")]))
        self.assertIsNone(refusal(["still"], ["x"], ["p"], [("p", ("ask", "still"), "p")]))
        self.assertIsNone(refusal(["a"], ["still"], ["p"], [("p", ("say", "still"), "p")]))

    def test_a_chain_of_150_rooms(self):
        rooms = names(150)
        chain = list(zip(rooms, rooms[1:]))
        self.assertIsNone(with_still(rooms, chain))
        self.assertIsNone(with_still(rooms, [(goal, start) for start, goal in chain]))
        self.assertEqual(with_still(rooms, chain + [(rooms[149], rooms[0])]), ("still", 0))
        self.assertEqual(with_still(rooms, [(rooms[149], rooms[0])] + chain), ("still", 0))
        self.assertEqual(with_still(rooms, chain + [(rooms[149], rooms[100])]), ("still", 100))
        self.assertEqual(with_still(rooms, chain + [(rooms[149], rooms[149])]), ("still", 149))

    def test_as_many_still_doors_as_can_be(self):
        rooms = names(150)
        pairs = [(start, goal) for number, start in enumerate(rooms) for goal in rooms[number + 1:]][:2000]
        self.assertIsNone(with_still(rooms, pairs))

    def test_against_a_widened_relation(self):
        for seed in range(400):
            chance = random.Random(seed)
            rooms = names(chance.randint(1, 7))
            chance.shuffle(rooms)
            pairs = [(start, goal) for start in rooms for goal in rooms]
            pairs = chance.sample(pairs, min(len(pairs), chance.randint(0, 8)))
            self.assertEqual(with_still(rooms, pairs), rounds_by_squaring(rooms, pairs), (rooms, pairs))


class SeveralPartsWrong(unittest.TestCase):
    RIGHT = (["a"], ["x"], ["p", "q"], [])
    WRONG = (["a", "A"], ["X"], ["p", "q", "p"], [("q", ("still",), "p"), ("z", ("still",), "p")])

    def test_the_first_part_is_told(self):
        told = [("asks", 1), ("says", 0), ("rooms", 2), ("doors", 1)]
        for first in range(4):
            for more in range(8):
                parts = [self.WRONG[n] if n == first or n > first and more >> (n - 1) & 1 else self.RIGHT[n]
                         for n in range(4)]
                self.assertEqual(refusal(*parts), told[first], parts)

    def test_doors_ahead_of_still(self):
        self.assertEqual(with_still(["p"], [("p", "p"), ("p", "q")]), ("doors", 1))
        self.assertEqual(with_still(["p"], [("p", "p"), ("p", "p")]), ("doors", 1))

    def test_a_wrong_ask_goes_ahead_of_a_say_that_is_an_ask(self):
        self.assertEqual(refusal(["a", "a"], ["a"], [], []), ("asks", 1))
        self.assertEqual(refusal([], [], [], []), ("asks", 0))
        self.assertEqual(refusal(["a"], [], [], []), ("says", 0))

    def test_a_number_told_is_just_that(self):
        for parts in (([], [], [], []), (["a"], ["x", "x"], [], []), (["a"], ["x"], ["r"], [("r", ("still",), "r")])):
            with self.assertRaises(NoMachine) as caught:
                Machine(*parts)
            self.assertIs(type(caught.exception.number), int)
            self.assertIs(type(caught.exception.part), str)


class WhatAMachineTells(unittest.TestCase):
    def test_its_parts_as_handed_in(self):
        asks, says, rooms, doors = kiosk_parts()
        machine = kiosk()
        self.assertEqual(machine.asks(), asks)
        self.assertEqual(machine.says(), says)
        self.assertEqual(machine.rooms(), rooms)
        self.assertEqual(machine.doors(), doors)

    def test_parts_by_name(self):
        machine = Machine(doors=[], rooms=["r"], says=["x"], asks=["a"])
        self.assertEqual((machine.asks(), machine.says(), machine.rooms(), machine.doors()), (["a"], ["x"], ["r"], []))

    def test_doors_from_a_room_in_order(self):
        machine = kiosk()
        self.assertEqual(machine.doors_from("hall"), [("hall", ("ask", "card"), "brew"),
                                                      ("hall", ("ask", "coin"), "pay")])
        self.assertEqual(machine.doors_from("pay"), [("pay", ("still",), "back"), ("pay", ("still",), "brew")])
        self.assertEqual(machine.doors_from("brew"), [("brew", ("say", "milk"), "hall"),
                                                      ("brew", ("say", "tea"), "hall"),
                                                      ("brew", ("ask", "coin"), "brew")])

    def test_no_doors_from_a_room(self):
        machine = Machine(["a"], ["x"], ["p", "q"], [("p", ("ask", "a"), "q")])
        self.assertEqual(machine.doors_from("q"), [])

    def test_doors_of_each_room_are_those_of_the_list(self):
        for seed in range(60):
            machine = Machine(*random_parts(seed))
            for room in machine.rooms():
                self.assertEqual(machine.doors_from(room), [door for door in machine.doors() if door[0] == room])


class QuietRooms(unittest.TestCase):
    def quiet(self, signs):
        machine = Machine(["a", "b", "say", "still"], ["x", "y", "ask"], ["p", "q"],
                          [("p", sign, "q") for sign in signs] + [("q", ("say", "y"), "p")])
        return machine.is_quiet("p")

    def test_without_say_and_still_doors(self):
        self.assertIs(self.quiet([]), True)
        self.assertIs(self.quiet([("ask", "a")]), True)
        self.assertIs(self.quiet([("ask", "a"), ("ask", "b")]), True)
        self.assertIs(self.quiet([("ask", "say"), ("ask", "still")]), True)

    def test_with_a_say_door(self):
        self.assertIs(self.quiet([("say", "x")]), False)
        self.assertIs(self.quiet([("say", "ask")]), False)
        self.assertIs(self.quiet([("ask", "a"), ("say", "x")]), False)
        self.assertIs(self.quiet([("say", "x"), ("ask", "a")]), False)

    def test_with_a_still_door(self):
        self.assertIs(self.quiet([("still",)]), False)
        self.assertIs(self.quiet([("ask", "a"), ("still",), ("ask", "b")]), False)

    def test_doors_that_lead_to_a_room_are_all_one(self):
        machine = Machine(["a"], ["x"], ["p", "q"], [("p", ("say", "x"), "q"), ("p", ("still",), "q")])
        self.assertIs(machine.is_quiet("q"), True)
        self.assertIs(machine.is_quiet("p"), False)

    def test_a_say_door_to_the_room_itself(self):
        machine = Machine(["a"], ["x"], ["p"], [("p", ("say", "x"), "p")])
        self.assertIs(machine.is_quiet("p"), False)


if __name__ == "__main__":
    unittest.main()
