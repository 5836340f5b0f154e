"""Points 28 and 3 of several machines: the most that one made trial may blame, and few that together blame all."""

import itertools
import random
import unittest

from mumtrial.blamers import first_blamer, how_many_blame
from mumtrial.errors import NoDepth, NoMatch, NoTaker
from mumtrial.keeping import keeps
from mumtrial.machines import Machine
from mumtrial.made import how_many_made, made_by
from mumtrial.several import fewest, most_blamed
from mumtrial.trials import blames
from tests.samples import lists_of, model_parts, names, near_parts, taker_parts, two_rounds, words_for

A = ("ask", "a")
X = ("say", "x")
STILL = ("still",)
FAR = (-1, 5, -2, 6, 100, 10 ** 30, -10 ** 30)


def silent(asks="a", says="x"):
    return Machine(list(asks), list(says), ["m"], [("m", ("ask", ask), "m") for ask in asks])


def late(*told, say="x", asks="a", says="x"):
    """Silent but behind just these asks, told at first, one by one: there it says this word for ever."""
    rooms = names(len(told) + 2)
    doors = [(rooms[-1], ("ask", ask), rooms[-1]) for ask in asks]
    for number, ask in enumerate(told):
        doors += [(rooms[number], ("ask", other), rooms[number + 1] if other == ask else rooms[-1]) for other in asks]
    last = rooms[len(told)]
    doors += [(last, ("ask", ask), last) for ask in asks] + [(last, ("say", say), last)]
    return Machine(list(asks), list(says), rooms, doors)


def blamed_by(model, depth, number, machines):
    trial = made_by(model, depth, number)
    return frozenset(place for place, machine in enumerate(machines) if blames(model, trial, machine) is not None)


def groups(count, most_rooms=3):
    """Models with one to six takers near them."""
    for seed in range(count):
        chance = random.Random(seed)
        asks, says = words_for(seed)
        parts = model_parts(seed, asks, says, most_rooms) if seed % 3 else taker_parts(seed, asks, says, most_rooms)
        takers = []
        for turn in range(chance.randint(1, 6)):
            if chance.random() < 0.6:
                takers.append(Machine(*near_parts(20 * seed + turn, parts)))
            else:
                takers.append(Machine(*taker_parts(20 * seed + turn, asks, says)))
        yield seed, Machine(*parts), takers


class ByHand(unittest.TestCase):
    def test_one_taker(self):
        for depth in range(5):
            number = first_blamer(silent(), depth, late("a"))
            if number is None:
                self.assertEqual(most_blamed(silent(), depth, [late("a")]), (0, 0))
                self.assertEqual(fewest(silent(), depth, [late("a")]), [])
            else:
                self.assertEqual(most_blamed(silent(), depth, [late("a")]), (1, number))
                self.assertEqual(len(fewest(silent(), depth, [late("a")])), 1)

    def test_none_is_blamed(self):
        for depth in range(5):
            self.assertEqual(most_blamed(silent(), depth, [silent()] * 3), (0, 0))
            self.assertEqual(fewest(silent(), depth, [silent()] * 3), [])
        self.assertEqual(most_blamed(silent(), 0, [late()]), (0, 0))
        self.assertEqual(fewest(silent(), 0, [late()]), [])

    def test_one_ask_after_another_takes_several_trials(self):
        # Told another word than its own at first, each of them is silent for good.
        model = silent("abcd")
        machines = [late(ask, asks="abcd") for ask in "abcd"]
        for depth in (2, 3, 4):
            many, number = most_blamed(model, depth, machines)
            self.assertEqual((many, number), (1, min(first_blamer(model, depth, machine) for machine in machines)))
            numbers = fewest(model, depth, machines)
            self.assertEqual(len(numbers), 4)
            self.assertEqual(frozenset().union(*[blamed_by(model, depth, one, machines) for one in numbers]), {0, 1, 2, 3})
        self.assertEqual(fewest(model, 1, machines), [])

    def test_six_of_which_one_stands_twice(self):
        model = silent("ab", "xy")
        machines = [late("a", asks="ab", says="xy"), late("b", asks="ab", says="xy"), late("a", asks="ab", says="xy"),
                    late("a", say="y", asks="ab", says="xy"), silent("ab", "xy"), late("b", "a", asks="ab", says="xy")]
        many, number = most_blamed(model, 2, machines)
        self.assertEqual(many, 3)
        self.assertEqual(blamed_by(model, 2, number, machines), {0, 2, 3})
        many, number = most_blamed(model, 3, machines)
        self.assertEqual(many, 3)
        self.assertEqual(blamed_by(model, 3, number, machines), {0, 2, 3})
        numbers = fewest(model, 3, machines)
        self.assertEqual(len(numbers), 2)
        self.assertEqual(numbers, sorted(numbers))
        self.assertEqual(frozenset().union(*[blamed_by(model, 3, one, machines) for one in numbers]), {0, 1, 2, 3, 5})

    def test_one_twice_counts_twice(self):
        one, other = late("a", asks="ab"), late("b", asks="ab")
        model = silent("ab")
        self.assertEqual(most_blamed(model, 2, [one, other, other]), (2, first_blamer(model, 2, other)))
        self.assertEqual(most_blamed(model, 2, [one, one, other]), (2, first_blamer(model, 2, one)))
        self.assertEqual(len(fewest(model, 2, [one, other, other])), 2)

    def test_the_parts_of_one_trial_blame_different_machines(self):
        # The model says x or y at first and is silent then; one machine goes on behind x, the other behind y.
        says = [("say", "x"), ("say", "y")]
        doors = [("p", says[0], "q"), ("p", says[1], "r"), ("p", A, "p"), ("q", A, "q"), ("r", A, "r")]
        model = Machine(["a"], ["x", "y"], ["p", "q", "r"], doors)
        one = Machine(["a"], ["x", "y"], ["p", "q", "r"], doors + [("q", says[0], "q")])
        other = Machine(["a"], ["x", "y"], ["p", "q", "r"], doors + [("r", says[1], "r")])
        many, number = most_blamed(model, 2, [one, other])
        self.assertEqual(many, 2)
        self.assertEqual(blamed_by(model, 2, number, [one, other]), {0, 1})
        self.assertNotEqual(number, first_blamer(model, 2, one))
        self.assertNotEqual(number, first_blamer(model, 2, other))
        self.assertEqual(len(fewest(model, 2, [one, other])), 1)

    def test_depths(self):
        machines = [late(*["a"] * count) for count in range(5)]
        for depth in range(5):
            many, number = most_blamed(silent(), depth, machines)
            self.assertEqual(many, depth)
            self.assertEqual(blamed_by(silent(), depth, number, machines), frozenset(range(depth)))
            self.assertEqual(len(fewest(silent(), depth, machines)), 0 if depth == 0 else 1)

    def test_more_than_six_and_none(self):
        machines = [late(*["a"] * count) for count in range(5)] * 2
        self.assertEqual(most_blamed(silent(), 4, machines[:8])[0], 7)
        self.assertEqual(most_blamed(silent(), 2, []), (0, 0))
        self.assertEqual(fewest(silent(), 2, []), [])

    def test_the_fewest_is_fewer_than_by_the_most_at_each_turn(self):
        # By a 0, 1 and 2 are blamed, by b 3, 4 and 5, by c 0, 1, 3 and 4: whoever takes c first needs three.
        model = silent("abc")
        machines = []
        for asks in ("ac", "ac", "a", "bc", "bc", "b"):
            doors = [("p", ("ask", ask), "loud" if ask in asks else "mum") for ask in "abc"]
            doors += [(room, ("ask", ask), room) for room in ("loud", "mum") for ask in "abc"]
            machines.append(Machine(list("abc"), ["x"], ["p", "loud", "mum"], doors + [("loud", X, "loud")]))
        many, number = most_blamed(model, 2, machines)
        self.assertEqual(many, 4)
        self.assertEqual(blamed_by(model, 2, number, machines), {0, 1, 3, 4})
        numbers = fewest(model, 2, machines)
        self.assertEqual([blamed_by(model, 2, one, machines) for one in numbers], [{0, 1, 2}, {3, 4, 5}])


class AgainstEachMadeTrial(unittest.TestCase):
    def test_small_depths(self):
        seen = set()
        for seed, model, machines in groups(110):
            for depth in range(4):
                count = how_many_made(model, depth)
                if count > 250:
                    continue
                blamed = [blamed_by(model, depth, number, machines) for number in range(count)]
                most = max(len(one) for one in blamed)
                first = min(number for number in range(count) if len(blamed[number]) == most)
                self.assertEqual(most_blamed(model, depth, machines), (most, first), (seed, depth))
                numbers = fewest(model, depth, machines)
                every = frozenset().union(*blamed)
                self.assertEqual(frozenset().union(*[blamed[number] for number in numbers]), every)
                self.assertEqual(numbers, sorted(set(numbers)))
                for fewer in itertools.combinations(set(blamed), max(len(numbers) - 1, 0)):
                    self.assertFalse(numbers and frozenset().union(*fewer) == every)
                seen.add((depth, most > 1, len(numbers)))
        self.assertLessEqual({(2, True, 1), (2, True, 2), (3, True, 1), (0, False, 0), (1, True, 1)}, seen)

    def test_big_depths(self):
        for seed, model, machines in groups(60, 4):
            for depth in (3, 4):
                many, number = most_blamed(model, depth, machines)
                self.assertEqual(len(blamed_by(model, depth, number, machines)), many)
                may = [place for place, one in enumerate(machines) if how_many_blame(model, depth, one) > 0]
                numbers = fewest(model, depth, machines)
                sets = [blamed_by(model, depth, one, machines) for one in numbers]
                self.assertEqual(sorted(frozenset().union(*sets)), may)
                self.assertEqual(many == 0, may == [])
                self.assertEqual(len(numbers) <= 1, many == len(may))
                firsts = [first_blamer(model, depth, one) for one in machines]
                if may:
                    self.assertGreaterEqual(number, min(first for first in firsts if first is not None))
                self.assertLessEqual(len(numbers), len(may))

    def test_the_same_number_with_one_machine_as_first_blamer(self):
        for seed, model, machines in groups(60, 4):
            for machine in machines[:2]:
                for depth in range(5):
                    first = first_blamer(model, depth, machine)
                    self.assertEqual(most_blamed(model, depth, [machine]), (0, 0) if first is None else (1, first))
                    self.assertEqual(len(fewest(model, depth, [machine])), 0 if first is None else 1)

    def test_whatever_the_order_of_the_machines(self):
        for seed, model, machines in groups(30, 4):
            turned = list(machines)
            random.Random(seed).shuffle(turned)
            self.assertEqual(most_blamed(model, 3, turned), most_blamed(model, 3, machines))
            self.assertEqual(len(fewest(model, 3, turned)), len(fewest(model, 3, machines)))

    def test_those_that_keep_are_never_blamed(self):
        for seed, model, machines in groups(60):
            right = [machine for machine in machines if keeps(model, machine)[0] == "keeps"]
            if right:
                self.assertEqual(most_blamed(model, 4, right), (0, 0))
                self.assertEqual(fewest(model, 4, right), [])

    def test_four_asks_four_says_and_six_machines(self):
        asks, says = list("abcd"), list("wxyz")
        for seed, rooms, most, few, size in ((9, 6, 4, 1, 10 ** 49), (9, 10, 3, 2, 10 ** 21), (7, 10, 3, 1, 10 ** 48)):
            parts = taker_parts(seed, asks, says, rooms)
            model = Machine(*parts)
            machines = [Machine(*near_parts(100 * seed + turn, parts)) for turn in range(6)]
            self.assertGreater(how_many_made(model, 4), size)
            many, number = most_blamed(model, 4, machines)
            self.assertEqual((many, len(blamed_by(model, 4, number, machines))), (most, most))
            numbers = fewest(model, 4, machines)
            self.assertEqual(len(numbers), few)
            self.assertEqual(sorted(frozenset().union(*[blamed_by(model, 4, one, machines) for one in numbers])), [
                place for place, machine in enumerate(machines) if how_many_blame(model, 4, machine) > 0])


class Refused(unittest.TestCase):
    def each(self, model, depth, machines, error):
        told = []
        for call in (most_blamed, fewest):
            with self.assertRaises(error) as caught:
                call(model, depth, machines)
            told.append(caught.exception)
        return told

    def test_no_depth(self):
        for depth in FAR:
            self.each(silent(), depth, [late()], NoDepth)
            self.each(silent(), depth, [silent()] * 6, NoDepth)
        for depth in (0, 4):
            most_blamed(silent(), depth, [late()])
            fewest(silent(), depth, [late()])

    def test_machine_by_machine(self):
        model = silent()
        unlike = silent("b")
        deaf = Machine(["a"], ["x"], ["p", "q"], [("p", A, "p")])
        deafer = Machine(["a"], ["x"], ["r"], [])
        self.each(model, 2, [late(), unlike], NoMatch)
        self.each(model, 2, [unlike, deaf], NoMatch)
        for error in self.each(model, 2, [late(), deaf, unlike], NoTaker):
            self.assertEqual((error.room, error.ask), ("q", "a"))
        for error in self.each(model, 2, [deafer, deaf, unlike], NoTaker):
            self.assertEqual((error.room, error.ask), ("r", "a"))
        self.each(model, 2, [late()] * 5 + [unlike], NoMatch)
        self.each(model, 2, [late()] * 5 + [deaf], NoTaker)

    def test_says_in_another_order(self):
        self.each(silent("a", "xy"), 1, [silent("a", "xy"), silent("a", "yx")], NoMatch)
        self.each(silent("ab"), 1, [silent("ba")], NoMatch)

    def test_machines_go_ahead_of_depths(self):
        for depth in FAR:
            self.each(silent(), depth, [late(), silent("b")], NoMatch)
            self.each(silent(), depth, [late(), Machine(["a"], ["x"], ["p"], [])], NoTaker)

    def test_the_model_need_not_be_a_taker(self):
        model = Machine(["a"], ["x"], ["p"], [])
        self.assertEqual(most_blamed(model, 1, [late()]), (1, 1))

    def test_wide_ones_are_not_refused(self):
        self.assertEqual(most_blamed(two_rounds(20, 21), 3, [two_rounds(22, 23)]), (0, 0))


class OwnThings(unittest.TestCase):
    def test_what_is_handed_in_stays(self):
        model, machines = silent("ab"), [late("a", asks="ab"), late("b", asks="ab"), silent("ab")]
        twin = list(machines)
        lists = [lists_of(machine) for machine in machines]
        for turn in range(2):
            most_blamed(model, 3, machines)
            fewest(model, 3, machines)
            self.assertEqual([one is other for one, other in zip(machines, twin)], [True] * 3)
            self.assertEqual([lists_of(machine) for machine in machines], lists)

    def test_a_changed_list_changes_nothing_told_later(self):
        model, machines = silent("ab"), [late("a", asks="ab"), late("b", asks="ab")]
        twin = fewest(model, 2, machines)
        for turn in range(3):
            told = fewest(model, 2, machines)
            self.assertEqual(told, twin)
            told.append(0)
        empty = fewest(model, 0, machines)
        empty.append(1)
        self.assertEqual(fewest(model, 0, machines), [])

    def test_the_kinds_of_what_is_told(self):
        told = most_blamed(silent(), 2, [late()])
        self.assertIs(type(told), tuple)
        self.assertEqual([type(one) for one in told], [int, int])
        told = fewest(silent(), 2, [late()])
        self.assertIs(type(told), list)
        self.assertEqual([type(one) for one in told], [int])
        self.assertEqual([type(one) for one in most_blamed(silent(), 0, [late()])], [int, int])


if __name__ == "__main__":
    unittest.main()
