"""Points 26 and 27 of hidden words: which can be hidden, the hidden machine, what keeps to it."""

import itertools
import random
import unittest

from mumtrial.errors import NoJoin, NoMachine, NoWord, TooWide
from mumtrial.hidden import hidden
from mumtrial.joined import joined
from mumtrial.keeping import keeps
from mumtrial.machines import Machine
from mumtrial.stories import is_story
from tests.samples import kiosk, kiosk_parts, lists_of, near_parts, refusal, taker_parts

HUSH = ("hush",)
STILL = ("still",)
A = ("ask", "a")
W = ("say", "w")
X = ("say", "x")
Y = ("say", "y")
Z = ("say", "z")


def loud():
    """Each say leads one room on."""
    return Machine(["a"], ["w", "x", "y", "z"], ["p", "q", "r", "s", "t"], [
        ("p", A, "p"), ("p", W, "q"), ("q", X, "r"), ("r", Y, "s"), ("s", Z, "t"), ("t", A, "p")])


def hidden_lists(lists, words):
    """The lists of the hidden machine, by the document's words."""
    asks, says, rooms, doors = lists
    turned = []
    for start, sign, goal in doors:
        door = (start, STILL if sign[0] == "say" and sign[1] in words else sign, goal)
        if door not in turned:
            turned.append(door)
    return (asks, [say for say in says if say not in words], rooms, turned)


def number_of(call, *things):
    """The number of the NoWord that a call is refused with."""
    try:
        call(*things)
    except NoWord as error:
        return error.number
    return None


class WhichWords(unittest.TestCase):
    def test_no_word(self):
        for machine in (kiosk(), loud()):
            self.assertEqual(lists_of(hidden(machine, [])), lists_of(machine))
        only = Machine(["a"], ["x"], ["p"], [])
        self.assertEqual(lists_of(hidden(only, [])), lists_of(only))

    def test_one_and_several_in_any_order(self):
        for count in range(4):
            for words in itertools.permutations("wxyz", count):
                self.assertEqual(lists_of(hidden(loud(), list(words))), hidden_lists(lists_of(loud()), words))

    def test_a_word_that_is_no_say(self):
        for word in ("a", "v", "", "p", "W", "w ", "say", "still", "hush", "wx"):
            self.assertEqual(number_of(hidden, loud(), [word]), 0)
            self.assertEqual(number_of(hidden, loud(), ["x", word]), 1)
            self.assertEqual(number_of(hidden, loud(), ["z", "w", word, word]), 2)
            self.assertEqual(number_of(hidden, loud(), ["w", "x", "y", "z", word]), 4)

    def test_one_twice(self):
        self.assertEqual(number_of(hidden, loud(), ["x", "x"]), 1)
        self.assertEqual(number_of(hidden, loud(), ["x", "y", "x"]), 2)
        self.assertEqual(number_of(hidden, loud(), ["x", "y", "y", "x"]), 2)
        self.assertEqual(number_of(hidden, loud(), ["w", "x", "y", "z", "w"]), 4)

    def test_the_first_of_several(self):
        self.assertEqual(number_of(hidden, loud(), ["x", "x", "a", "v"]), 1)
        self.assertEqual(number_of(hidden, loud(), ["x", "a", "x", "v"]), 1)

    def test_all_says(self):
        for words in itertools.permutations("wxyz"):
            self.assertEqual(number_of(hidden, loud(), list(words)), 4)
        self.assertEqual(number_of(hidden, Machine(["a"], ["x"], ["p"], []), ["x"]), 1)
        self.assertEqual(number_of(hidden, kiosk(), ["milk", "tea"]), 2)

    def test_words_go_ahead_of_still_doors(self):
        machine = Machine(["a"], ["x", "y"], ["p"], [("p", X, "p"), ("p", Y, "p")])
        self.assertEqual(number_of(hidden, machine, ["x", "y"]), 2)
        self.assertEqual(number_of(hidden, machine, ["x", "z"]), 1)
        self.assertRaises(NoMachine, hidden, machine, ["x"])


class Still(unittest.TestCase):
    def refused(self, machine, words):
        with self.assertRaises(NoMachine) as caught:
            hidden(machine, words)
        told = (caught.exception.part, caught.exception.number)
        self.assertEqual(told, refusal(*hidden_lists(lists_of(machine), words)))
        return told

    def test_a_say_that_leads_to_its_own_room(self):
        machine = Machine(["a"], ["x", "y"], ["p", "q", "r"], [("r", X, "r"), ("q", X, "q"), ("p", Y, "p")])
        self.assertEqual(self.refused(machine, ["x"]), ("still", 1))
        self.assertEqual(self.refused(machine, ["y"]), ("still", 0))

    def test_hidden_ones_with_still_ones(self):
        machine = Machine(["a"], ["x", "y", "z"], ["o", "p", "q", "r"], [
            ("o", STILL, "p"), ("p", STILL, "q"), ("q", X, "r"), ("r", Y, "p"), ("o", Z, "o")])
        self.assertEqual(lists_of(hidden(machine, ["x"]))[1], ["y", "z"])
        self.assertEqual(lists_of(hidden(machine, ["y"]))[1], ["x", "z"])
        self.assertEqual(self.refused(machine, ["x", "y"]), ("still", 1))
        self.assertEqual(self.refused(machine, ["z", "y"]), ("still", 0))

    def test_random_ones(self):
        seen = set()
        for seed in range(300):
            parts = taker_parts(seed, ["a"], ["x", "y", "z"])
            words = random.Random(seed).sample(parts[1], random.Random(seed).randint(1, 2))
            told = refusal(*hidden_lists(parts, words))
            seen.add(told)
            if told is None:
                self.assertEqual(lists_of(hidden(Machine(*parts), words)), hidden_lists(parts, words))
            else:
                self.assertEqual(self.refused(Machine(*parts), words), told)
        self.assertEqual(seen, {None, ("still", 0), ("still", 1), ("still", 2), ("still", 3)})


class TheHiddenOne(unittest.TestCase):
    def test_doors_that_come_to_be_alike(self):
        machine = Machine(["a"], ["x", "y", "z"], ["p", "q"], [
            ("p", Y, "q"), ("p", Z, "q"), ("p", X, "q"), ("p", A, "q"), ("q", Z, "q"), ("q", A, "q")])
        self.assertEqual(hidden(machine, ["x", "y"]).doors(), [
            ("p", STILL, "q"), ("p", Z, "q"), ("p", A, "q"), ("q", Z, "q"), ("q", A, "q")])

    def test_one_that_comes_to_be_like_a_still_one(self):
        doors = [("p", X, "q"), ("p", A, "q"), ("p", STILL, "q"), ("p", Y, "q")]
        machine = Machine(["a"], ["x", "y"], ["p", "q"], doors)
        self.assertEqual(hidden(machine, ["x"]).doors(), [("p", STILL, "q"), ("p", A, "q"), ("p", Y, "q")])
        self.assertEqual(hidden(machine, ["y"]).doors(), doors[:3])

    def test_an_ask_that_is_called_like_nothing_hidden_stays(self):
        machine = Machine(["say", "still"], ["ask", "hush"], ["p", "q"], [
            ("p", ("ask", "say"), "q"), ("p", ("say", "ask"), "q"), ("p", ("ask", "still"), "q"), ("q", ("say", "hush"), "p")])
        self.assertEqual(hidden(machine, ["ask"]).doors(), [
            ("p", ("ask", "say"), "q"), ("p", STILL, "q"), ("p", ("ask", "still"), "q"), ("q", ("say", "hush"), "p")])

    def test_asks_and_rooms_stay(self):
        told = hidden(kiosk(), ["milk"])
        asks, says, rooms, doors = kiosk_parts()
        self.assertEqual((told.asks(), told.says(), told.rooms()), (asks, ["tea"], rooms))

    def test_what_is_hidden_is_not_heard(self):
        told = hidden(loud(), ["w", "y"])
        self.assertIs(is_story(told, [X, Z, HUSH]), True)
        self.assertIs(is_story(told, [W]), False)
        self.assertIs(is_story(told, [HUSH]), False)
        self.assertIs(is_story(hidden(loud(), ["z"]), [W, X, Y, HUSH, A, W]), True)

    def test_hidden_one_by_one(self):
        together = lists_of(hidden(loud(), ["y", "w"]))
        self.assertEqual(lists_of(hidden(hidden(loud(), ["w"]), ["y"])), together)
        self.assertEqual(lists_of(hidden(hidden(loud(), ["y"]), ["w"])), together)


class Keeping(unittest.TestCase):
    def hidden_keeps(self, model, taker, words):
        """1 where both can be hidden, and it is looked whether the one keeps to the other."""
        try:
            pair = (hidden(model, words), hidden(taker, words))
            self.assertEqual(keeps(*pair)[0], "keeps")
            return 1
        except (NoMachine, TooWide):
            return 0

    def test_hidden_takers_keep_to_hidden_models(self):
        looked = 0
        for seed in range(150):
            parts = taker_parts(seed, ["a", "b"][:1 + seed % 2], ["x", "y", "z"][:2 + seed // 2 % 2])
            model = Machine(*parts)
            for turn in range(4):
                taker = Machine(*near_parts(9 * seed + turn, parts))
                if keeps(model, taker)[0] == "keeps":
                    for count in range(1, len(parts[1])):
                        for words in itertools.combinations(parts[1], count):
                            looked += self.hidden_keeps(model, taker, list(words))
        self.assertGreater(looked, 200)

    def test_joined_ones_with_words_hidden(self):
        looked = 0
        for seed in range(100):
            chance = random.Random(seed)
            pair = [taker_parts(seed, ["a", "b"], chance.sample(["w", "x"], chance.randint(1, 2)), 3),
                    taker_parts(seed + 1, chance.sample(["w", "x", "c"], 2), ["y", "a"][:chance.randint(1, 2)], 3)]
            models = [Machine(*parts) for parts in pair]
            takers = [Machine(*near_parts(seed, parts)) for parts in pair]
            if [keeps(model, taker)[0] for model, taker in zip(models, takers)] != ["keeps", "keeps"]:
                continue
            try:
                both = (joined(*models), joined(*takers))
            except NoJoin:
                continue
            for words in itertools.combinations(both[0].says(), 1 + seed % 2):
                if len(words) < len(both[0].says()):
                    looked += self.hidden_keeps(*both, list(words))
        self.assertGreater(looked, 25)


class OwnThings(unittest.TestCase):
    def test_the_machine_and_the_words_stay_as_they_were(self):
        machine, words = loud(), ["y", "w"]
        told = hidden(machine, words)
        lists = lists_of(told)
        for part in lists_of(told):
            part.clear()
        self.assertEqual(words, ["y", "w"])
        words.append("x")
        self.assertEqual(lists_of(machine), lists_of(loud()))
        self.assertEqual(lists_of(told), lists)
        self.assertEqual(told.says(), ["x", "z"])

    def test_also_where_it_is_refused(self):
        machine = loud()
        for words in (["x", "x"], ["w", "x", "y", "z"], ["a"]):
            twin = list(words)
            self.assertRaises(NoWord, hidden, machine, words)
            self.assertEqual(words, twin)
        round_about = Machine(["a"], ["x", "y"], ["p"], [("p", X, "p")])
        self.assertRaises(NoMachine, hidden, round_about, ["x"])
        self.assertEqual(lists_of(machine), lists_of(loud()))
        self.assertEqual(round_about.doors(), [("p", X, "p")])

    def test_no_word_gives_another_machine(self):
        machine = loud()
        self.assertIsInstance(hidden(machine, []), Machine)


if __name__ == "__main__":
    unittest.main()
