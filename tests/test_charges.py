"""Points 20 and 21: charges, what is open to them, met ones, hopeless ones, models that are too wide."""

import itertools
import unittest

from mumtrial.charges import charge_behind, first_charge, hushed, is_hopeless, met, open_to
from mumtrial.errors import TooWide
from mumtrial.machines import Machine
from mumtrial.stories import first_face
from tests import plain
from tests.samples import (bent_hopeless_parts, chain, hopeless_parts, kiosk, listened, model_parts, names, random_parts,
                           taker_parts, words_for)

HUSH = ("hush",)
STILL = ("still",)
A = ("ask", "a")
B = ("ask", "b")
X = ("say", "x")
Y = ("say", "y")
COIN = ("ask", "coin")
TEA = ("say", "tea")
MILK = ("say", "milk")


def turning():
    """Behind a, p and q come to be alike; behind b nothing is left of q; x and y come at some rooms."""
    return Machine(["a", "b"], ["x", "y"], ["r", "q", "p"], [
        ("p", A, "r"), ("q", A, "r"), ("p", B, "q"), ("q", X, "p"), ("p", X, "p"), ("p", Y, "r"), ("q", STILL, "r")])


class OneCharge(unittest.TestCase):
    def test_the_first(self):
        self.assertEqual(first_charge(kiosk()), [("hall",)])
        for seed in range(40):
            machine = Machine(*random_parts(seed))
            self.assertEqual(first_charge(machine), [first_face(machine)])

    def test_behind_an_ask(self):
        self.assertEqual(charge_behind(kiosk(), [("hall",)], COIN), [("pay", "brew", "back", "rest")])
        self.assertEqual(charge_behind(turning(), [("p",)], B), [("r", "q")])

    def test_behind_a_say(self):
        self.assertEqual(charge_behind(kiosk(), [("brew",), ("hall",)], TEA), [("hall",)])
        self.assertEqual(charge_behind(turning(), [("p",), ("q",)], X), [("p",)])

    def test_behind_hush(self):
        self.assertEqual(charge_behind(kiosk(), [("brew", "rest"), ("hall",), ("pay",)], HUSH), [("hall",), ("rest",)])

    def test_faces_that_come_to_be_alike(self):
        self.assertEqual(charge_behind(turning(), [("p",), ("q",), ("q", "p")], A), [("r",)])

    def test_faces_that_come_to_be_empty(self):
        self.assertEqual(charge_behind(turning(), [("p",), ("q",)], B), [("r", "q")])
        self.assertEqual(charge_behind(turning(), [("q",)], B), [])
        self.assertEqual(charge_behind(turning(), [("r",)], Y), [])

    def test_words_that_are_none(self):
        for sign in (("ask", "c"), ("say", "a"), ("ask", "x"), ("ask", "")):
            self.assertEqual(charge_behind(turning(), [("p",), ("q",)], sign), [])

    def test_they_are_sorted_as_python_sorts(self):
        # By the names, not by the order of the machine's rooms: ("p",), ("q",), ("r",), though r stands first.
        machine = Machine(["a"], ["x"], ["r", "q", "p"], [("r", A, "p"), ("q", A, "q"), ("p", A, "r")])
        self.assertEqual(charge_behind(machine, [("p",), ("q",), ("r",)], A), [("p",), ("q",), ("r",)])
        self.assertEqual(charge_behind(machine, [("q",), ("r", "p"), ("r", "q"), ("r", "q", "p")], A), [
            ("q",), ("q", "p"), ("r", "p"), ("r", "q", "p")])

    def test_the_hushed_one(self):
        self.assertEqual(hushed(kiosk(), [("hall",)]), [("hall",)])
        wide = ("pay", "brew", "back", "rest")
        self.assertEqual(hushed(kiosk(), [wide]), [wide, ("rest",)])
        self.assertEqual(hushed(kiosk(), [wide, ("rest",)]), [wide, ("rest",)])
        self.assertEqual(hushed(kiosk(), [("brew",)]), [("brew",)])
        self.assertEqual(hushed(kiosk(), [("brew", "rest"), ("hall",)]), [("brew", "rest"), ("hall",), ("rest",)])
        self.assertEqual(hushed(kiosk(), []), [])

    def test_behind_the_charge_without_faces(self):
        for sign in (A, B, X, Y, HUSH):
            self.assertEqual(charge_behind(turning(), [], sign), [])


class Open(unittest.TestCase):
    def test_to_one_face(self):
        self.assertEqual(open_to(kiosk(), [("hall",)]), [HUSH])
        self.assertEqual(open_to(kiosk(), [("pay", "brew", "back", "rest")]), [TEA, MILK, HUSH])
        self.assertEqual(open_to(kiosk(), [("brew",)]), [TEA, MILK])

    def test_to_several_faces_what_may_come_at_each(self):
        self.assertEqual(open_to(turning(), [("p",)]), [X, Y])
        self.assertEqual(open_to(turning(), [("p",), ("q",)]), [X])
        self.assertEqual(open_to(turning(), [("p",), ("r", "p")]), [X, Y])
        self.assertEqual(open_to(turning(), [("p",), ("r",)]), [])
        self.assertEqual(open_to(turning(), [("r",), ("r", "q")]), [HUSH])

    def test_to_the_charge_without_faces_all(self):
        self.assertEqual(open_to(turning(), []), [X, Y, HUSH])
        self.assertEqual(open_to(kiosk(), []), [TEA, MILK, HUSH])
        self.assertEqual(open_to(Machine(["a"], ["x"], ["r"], []), []), [X, HUSH])

    def test_in_the_order_of_says(self):
        doors = [("p", ("say", say), "p") for say in "zyxw"] + [("q", ("say", say), "q") for say in "wxz"]
        for says in itertools.permutations("wxyz"):
            machine = Machine(["a"], list(says), ["p", "q"], doors)
            self.assertEqual(open_to(machine, [("p",), ("q",)]), [("say", say) for say in says if say != "y"])
            self.assertEqual(open_to(machine, []), [("say", say) for say in says] + [HUSH])


class AgainstThePlainWords(unittest.TestCase):
    def models(self):
        for seed in range(60):
            yield bent_hopeless_parts(seed)
            yield model_parts(seed, *words_for(seed))
            yield random_parts(seed)

    def test_each_met_charge(self):
        for parts in self.models():
            machine, model = Machine(*parts), plain.Plain(*parts)
            charges = plain.met_charges(model, 60)
            for charge in charges:
                here = sorted(charge)
                self.assertEqual(hushed(machine, here), sorted(plain.hushed(model, charge)))
                self.assertEqual(open_to(machine, here), plain.open_to(model, charge))
                for sign in model.signs():
                    self.assertEqual(charge_behind(machine, here, sign), sorted(plain.charge_behind(model, charge, sign)))
            if len(charges) > 60 or max(len(charge) for charge in charges) > 16:
                with self.assertRaises(TooWide):
                    met(machine)
            else:
                self.assertEqual(sorted(met(machine)), sorted(sorted(charge) for charge in charges))

    def test_hopeless_ones(self):
        counts = {True: 0, False: 0}
        for parts in self.models():
            model = plain.Plain(*parts)
            if len(plain.met_charges(model, 60)) > 60:
                continue
            hopeful = plain.hopeful_charges(model)
            for charge in plain.met_charges(model):
                told = is_hopeless(Machine(*parts), sorted(charge))
                self.assertIs(told, charge not in hopeful, (parts, charge))
                counts[told] += 1
        self.assertGreater(min(counts.values()), 50)


class Met(unittest.TestCase):
    def test_of_a_chain(self):
        self.assertEqual(sorted(met(chain(3))), [[("aa",)], [("ab",)], [("ac",)]])

    def test_behind_asks_says_and_asks_of_the_hushed_one(self):
        machine = Machine(["a"], ["x", "y"], ["p", "q", "r", "s", "t"], [
            ("p", STILL, "q"), ("p", X, "s"), ("p", A, "r"), ("q", A, "t"), ("t", Y, "t")])
        # Of the first face x and silence are open; behind a it is ("r", "t"), behind silence and a ("t",).
        first, both = ("p", "q"), [("r", "t"), ("t",)]
        self.assertEqual(sorted(met(machine)), sorted([
            [first], [both[0]], [("s",)], both, [], [("t",)]]))

    def test_the_hushed_charge_itself_is_not_met(self):
        machine = Machine(*hopeless_parts())
        first = first_charge(machine)
        self.assertNotEqual(hushed(machine, first), first)
        self.assertNotIn(hushed(machine, first), met(machine))

    def test_a_say_that_may_come_at_some_faces_alone_is_not_open(self):
        machine = Machine(["a"], ["x", "y"], ["p", "q", "v", "k", "g"], [
            ("p", STILL, "q"), ("p", A, "v"), ("q", A, "k"), ("v", X, "g"), ("k", Y, "k"), ("g", X, "g")])
        # Behind silence and a the faces are ("v", "k") and ("k",): x may come at one of them alone.
        self.assertIn([("k",), ("v", "k")], met(machine))
        self.assertEqual(open_to(machine, [("k",), ("v", "k")]), [Y])
        self.assertEqual(sorted(met(machine)), sorted([
            [("p", "q")], [("v", "k")], [("k",), ("v", "k")], [("g",)], [("k",)], []]))

    def test_each_once_and_as_a_charge_is(self):
        for seed in range(60):
            charges = met(Machine(*bent_hopeless_parts(seed)))
            self.assertEqual(len({tuple(charge) for charge in charges}), len(charges))
            for charge in charges:
                self.assertIs(type(charge), list)
                self.assertEqual(charge, sorted(set(charge)))
                self.assertNotIn((), charge)
                self.assertEqual({type(face) for face in charge} - {tuple}, set())

    def test_the_charge_without_faces_is_met_behind_an_ask_that_is_not_foreseen(self):
        machine = Machine(["a"], ["x"], ["r"], [])
        self.assertEqual(sorted(met(machine)), [[], [("r",)]])
        self.assertIs(is_hopeless(machine, []), False)

    def test_whatever_the_order_of_rooms_and_doors(self):
        for seed in range(30):
            asks, says, rooms, doors = bent_hopeless_parts(seed)
            turned = Machine(asks, says, rooms[:1] + rooms[:0:-1], doors[::-1])

            def as_sets(machine):
                return {frozenset(frozenset(face) for face in charge) for charge in met(machine)}

            self.assertEqual(as_sets(turned), as_sets(Machine(asks, says, rooms, doors)))


class Hopeless(unittest.TestCase):
    machine = Machine(*hopeless_parts())

    def test_neither_a_say_nor_silence_is_open(self):
        last = [("sayx",), ("sayx", "sayy"), ("sayy",)]
        self.assertEqual(open_to(self.machine, last), [])
        self.assertIn(last, met(self.machine))
        self.assertIs(is_hopeless(self.machine, last), True)

    def test_behind_an_ask_of_the_hushed_one(self):
        twice = [("u", "k"), ("u", "k", "v")]
        self.assertEqual(open_to(self.machine, twice), [HUSH])
        self.assertIs(is_hopeless(self.machine, twice), True)
        self.assertIs(is_hopeless(self.machine, first_charge(self.machine)), True)

    def test_others(self):
        for charge in ([("u", "k", "v")], [("sayx", "sayy")], [("sayx",)], [], [("sayx",), ("sayx", "sayy")]):
            self.assertIs(is_hopeless(self.machine, charge), False)

    def test_behind_an_ask(self):
        # A word may be said for ever, but the ask comes all the same.
        asks, says, rooms, doors = hopeless_parts()
        machine = Machine(asks, says, ["out"] + rooms, doors + [("out", A, "p"), ("out", X, "out")])
        self.assertEqual(open_to(machine, [("out",)]), [X])
        self.assertIs(is_hopeless(machine, [("out",)]), True)

    def test_a_say_that_helps_and_one_that_does_not(self):
        asks, says, rooms, doors = hopeless_parts()
        helped = Machine(asks, says, rooms, doors + [("q", X, "sayx")])
        self.assertEqual(open_to(helped, [("p", "q")]), [X])
        self.assertIs(is_hopeless(helped, [("p", "q")]), False)
        round_about = Machine(asks, says, rooms, doors + [("p", X, "p")])
        self.assertEqual(open_to(round_about, [("p", "q")]), [X, HUSH])
        self.assertIs(is_hopeless(round_about, [("p", "q")]), False)
        onward = Machine(asks, says, ["top"] + rooms, doors + [("top", X, "p")])
        self.assertEqual(open_to(onward, [("top",)]), [X])
        self.assertIs(is_hopeless(onward, [("top",)]), True)

    def test_silence_that_helps_beside_a_say_that_does_not(self):
        asks, says, rooms, doors = hopeless_parts()
        machine = Machine(asks, says, ["top", "calm"] + rooms, doors + [("top", X, "p"), ("top", STILL, "calm")])
        self.assertEqual(open_to(machine, [("top", "calm")]), [X, HUSH])
        self.assertIs(is_hopeless(machine, [("top", "calm")]), False)
        self.assertIs(is_hopeless(machine, [("p", "q")]), True)

    def test_no_taker_has_a_hopeless_one_by_itself(self):
        # A model that takes all asks keeps to itself, so its first charge can't be hopeless.
        for seed in range(60):
            machine = Machine(*taker_parts(seed, *words_for(seed)))
            self.assertIs(is_hopeless(machine, first_charge(machine)), False)


class Wide(unittest.TestCase):
    def refused(self, machine):
        for ask in (lambda: met(machine), lambda: is_hopeless(machine, first_charge(machine))):
            with self.assertRaises(TooWide):
                ask()

    def test_just_sixty_and_sixty_one_met(self):
        self.assertEqual(len(met(chain(60))), 60)
        self.assertIs(is_hopeless(chain(60), [("aa",)]), False)
        self.refused(chain(61))
        self.refused(chain(62))
        self.refused(chain(150))

    def test_just_sixteen_and_seventeen_faces_in_one(self):
        charges = met(listened(False))
        self.assertEqual((len(charges), max(len(charge) for charge in charges)), (48, 16))
        self.assertIs(is_hopeless(listened(False), max(charges, key=len)), False)
        model = plain.Plain(["a"], ["x"], listened(True).rooms(), listened(True).doors())
        charges = plain.met_charges(model)
        self.assertEqual((len(charges), max(len(charge) for charge in charges)), (49, 17))
        self.refused(listened(True))

    def test_other_charges_of_wide_models(self):
        with self.assertRaises(TooWide):
            is_hopeless(chain(61), [(names(61)[-1],)])
        with self.assertRaises(TooWide):
            is_hopeless(listened(True), [("z",)])

    def test_single_charges_of_wide_models_are_told(self):
        self.assertEqual(first_charge(chain(150)), [("aa",)])
        self.assertEqual(charge_behind(chain(150), [("aa",)], A), [("ab",)])
        self.assertEqual(hushed(chain(150), [("aa",)]), [("aa",)])
        self.assertEqual(open_to(chain(150), [("aa",)]), [HUSH])
        many = sorted((name,) for name in names(100))
        self.assertEqual(charge_behind(chain(150), many, HUSH), many)

    def test_far_too_wide(self):
        rooms = names(150)
        doors = [(start, A, goal) for start, goal in zip(rooms, rooms[1:])]
        doors += [(start, B, goal) for start, goal in zip(rooms[1:], rooms[2:])]
        doors += [(rooms[0], A, rooms[0]), (rooms[0], B, rooms[0])]
        self.refused(Machine(["a", "b"], ["x"], rooms, doors))


class OwnThings(unittest.TestCase):
    def test_nothing_handed_in_is_changed(self):
        machine = Machine(*hopeless_parts())
        charge = [("p", "q")]
        for sign in (A, B, X, HUSH):
            charge_behind(machine, charge, sign)
        hushed(machine, charge)
        open_to(machine, charge)
        is_hopeless(machine, charge)
        self.assertEqual(charge, [("p", "q")])

    def test_told_lists_that_are_changed_change_nothing(self):
        machine, twin = Machine(*hopeless_parts()), Machine(*hopeless_parts())
        charge = [("p", "q")]
        for ask in (lambda m: first_charge(m), lambda m: charge_behind(m, charge, A), lambda m: hushed(m, charge),
                    lambda m: open_to(m, charge), lambda m: open_to(m, []), lambda m: charge_behind(m, charge, X),
                    lambda m: hushed(m, []), lambda m: met(m), lambda m: met(m)[0], lambda m: met(m)[-1]):
            told = ask(machine)
            self.assertIs(type(told), list)
            told.append(("more",))
            told.insert(0, ())
            self.assertEqual(ask(machine), ask(twin))
            told.clear()
            self.assertEqual(ask(machine), ask(twin))
            self.assertEqual(charge, [("p", "q")])

    def test_the_hushed_one_is_a_list_of_its_own_where_it_is_the_same(self):
        machine = chain(2)
        charge = [("aa",)]
        told = hushed(machine, charge)
        self.assertEqual(told, charge)
        told.clear()
        self.assertEqual(charge, [("aa",)])

    def test_truths_are_truths(self):
        self.assertIs(type(is_hopeless(chain(2), [("aa",)])), bool)
        self.assertIs(type(is_hopeless(Hopeless.machine, [("p", "q")])), bool)


if __name__ == "__main__":
    unittest.main()
