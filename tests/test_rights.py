"""Points 22 and 23 and the interface's row of rights: the spots of a model's right machines."""

import itertools
import unittest

from mumtrial.charges import first_charge, is_hopeless
from mumtrial.errors import TooWide
from mumtrial.keeping import keeps
from mumtrial.machines import Machine
from mumtrial.rights import Rights
from mumtrial.stories import is_story
from tests.plain import Plain
from tests.samples import (bent_hopeless_parts, chain, hopeless_parts, kiosk, listened, model_parts, names, random_parts,
                           taker_parts, words_for)

HUSH = ("hush",)
STILL = ("still",)
A = ("ask", "a")
B = ("ask", "b")
X = ("say", "x")
Y = ("say", "y")


def spot_of(rights, story):
    spot = rights.first()
    for sign in story:
        if spot is None:
            return None
        spot = rights.behind(spot, sign)
    return spot


def answers(model):
    return [("say", say) for say in model.says()] + [HUSH]


def right_machine(model):
    """A machine whose rooms are the spots: where silence leads from a spot to another one, a still door does."""
    rights = Rights(model)
    spots, doors = [rights.first()], []
    room_names = names(150)
    looked = 0

    def room(spot):
        if spot not in spots:
            spots.append(spot)
        return room_names[spots.index(spot)]

    while looked < len(spots):
        here = spots[looked]
        looked += 1
        for sign in [("ask", ask) for ask in model.asks()] + answers(model):
            there = rights.behind(here, sign)
            if there is not None and sign != HUSH:
                doors.append((room(here), sign, room(there)))
            elif there is not None and there != here:
                doors.append((room(here), STILL, room(there)))
    return Machine(model.asks(), model.says(), room_names[:len(spots)], doors)


class NoRightMachine(unittest.TestCase):
    def test_first_is_none(self):
        model = Machine(*hopeless_parts())
        self.assertIsNone(Rights(model).first())
        self.assertIs(is_hopeless(model, first_charge(model)), True)

    def test_just_where_the_first_charge_is_hopeless(self):
        counts = {True: 0, False: 0}
        for seed in range(150):
            model = Machine(*bent_hopeless_parts(seed))
            none = Rights(model).first() is None
            self.assertEqual(none, is_hopeless(model, first_charge(model)))
            counts[none] += 1
            if none:
                for other in range(6):
                    taker = Machine(*taker_parts(10 * seed + other, ["a", "b"], ["x", "y"]))
                    self.assertEqual(keeps(model, taker)[0], "fault")
        self.assertGreater(min(counts.values()), 25)


class Spots(unittest.TestCase):
    def test_a_model_that_takes_all_asks(self):
        model = Machine(["a"], ["x", "y"], ["p", "q"], [("p", A, "q"), ("q", X, "p"), ("q", A, "q")])
        rights = Rights(model)
        first = rights.first()
        self.assertEqual(rights.may(first), [HUSH])
        asked = rights.behind(first, A)
        self.assertEqual(rights.may(asked), [X])
        self.assertIsNone(rights.behind(asked, Y))
        self.assertIsNone(rights.behind(asked, HUSH))
        self.assertIsNone(rights.behind(first, X))
        self.assertEqual(rights.may(rights.behind(asked, X)), [HUSH])
        self.assertEqual(rights.may(rights.behind(asked, A)), [X])

    def test_an_ask_that_the_model_does_not_take(self):
        model = Machine(["a", "b"], ["x", "y"], ["p", "q"], [("p", A, "q"), ("q", X, "q")])
        rights = Rights(model)
        free = spot_of(rights, [B])
        self.assertEqual(rights.may(free), [X, Y, HUSH])
        for story in itertools.product([A, B, X, Y], repeat=3):
            self.assertIsNotNone(spot_of(rights, [B] + list(story)))
        self.assertEqual(rights.may(spot_of(rights, [A])), [X])
        self.assertEqual(rights.may(spot_of(rights, [A, A])), [X, Y, HUSH])
        # Behind silence a machine says nothing until it is told something, free or not.
        self.assertEqual(rights.may(spot_of(rights, [B, HUSH])), [HUSH])
        self.assertEqual(rights.may(spot_of(rights, [B, HUSH, A])), [X, Y, HUSH])

    def test_silence_that_was_heard_and_silence_that_was_not(self):
        # Behind a, the model says x where its silence was heard, x or y where it wasn't.
        model = Machine(["a"], ["x", "y"], ["p", "q", "v", "w"], [
            ("p", STILL, "q"), ("p", A, "w"), ("q", A, "v"), ("v", X, "v"), ("w", Y, "w"), ("p", Y, "w"),
            ("v", A, "v"), ("w", A, "w")])
        rights = Rights(model)
        first = rights.first()
        self.assertEqual(rights.may(first), [Y, HUSH])
        self.assertEqual(rights.may(rights.behind(first, A)), [X, Y])
        heard = rights.behind(first, HUSH)
        self.assertEqual(rights.may(heard), [HUSH])
        self.assertEqual(rights.behind(heard, HUSH), heard)
        self.assertIsNone(rights.behind(heard, X))
        self.assertIsNone(rights.behind(heard, Y))
        self.assertEqual(rights.may(rights.behind(heard, A)), [X])

    def test_a_machine_that_can_not_know_whether_it_was_heard(self):
        # Nothing but silence is right at first, heard or not: behind a, y would be wrong if it was heard. But whoever
        # wasn't yet silent may say it.
        model = Machine(["a"], ["x", "y"], ["p", "q", "v", "w"], [
            ("p", STILL, "q"), ("p", A, "w"), ("q", A, "v"), ("v", X, "v"), ("w", Y, "w"), ("v", A, "v"), ("w", A, "w")])
        rights = Rights(model)
        self.assertEqual(rights.may(rights.first()), [HUSH])
        self.assertEqual(rights.may(spot_of(rights, [A])), [X, Y])
        self.assertEqual(rights.may(spot_of(rights, [HUSH, A])), [X])
        doors = [("m", A, "y"), ("m", STILL, "s"), ("y", Y, "y"), ("y", A, "y"), ("x", X, "x"), ("x", A, "x")]
        wrong = Machine(["a"], ["x", "y"], ["m", "s", "x", "y"], doors + [("s", A, "y")])
        self.assertEqual(keeps(model, wrong), ("fault", [HUSH, A], Y))
        right = Machine(["a"], ["x", "y"], ["m", "s", "x", "y"], doors + [("s", A, "x")])
        self.assertEqual(keeps(model, right)[0], "keeps")
        self.assertIs(is_story(right, [A, Y]), True)

    def test_what_may_come_at_the_model_but_in_no_right_machine(self):
        # At first x or silence may come at the model; behind silence nobody could go on rightly.
        asks, says, rooms, doors = hopeless_parts()
        model = Machine(asks, says, rooms, doors + [("p", X, "sayx")])
        rights = Rights(model)
        self.assertEqual(rights.may(rights.first()), [X])
        self.assertIsNone(rights.behind(rights.first(), HUSH))
        model = Machine(asks, says, ["top", "calm"] + rooms, doors + [("top", X, "p"), ("top", STILL, "calm")])
        rights = Rights(model)
        self.assertEqual(rights.may(rights.first()), [HUSH])
        self.assertIsNone(rights.behind(rights.first(), X))

    def test_words_that_are_none(self):
        rights = Rights(kiosk())
        for sign in (("ask", "bill"), ("say", "soup"), ("ask", "tea"), ("say", "coin"), ("ask", ""), ("say", "hush")):
            for story in ([], [HUSH], [("ask", "coin")], [("ask", "card"), ("ask", "card")]):
                self.assertIsNone(rights.behind(spot_of(rights, story), sign))

    def test_may_is_in_the_order_of_signs_hush_last(self):
        doors = [("p", ("say", say), "p") for say in "zyw"] + [("p", STILL, "q"), ("q", A, "p"), ("p", A, "p")]
        for says in itertools.permutations("wxyz"):
            rights = Rights(Machine(["a"], list(says), ["p", "q"], doors))
            self.assertEqual(rights.may(rights.first()), [("say", say) for say in says if say != "x"] + [HUSH])

    def test_may_tells_what_has_a_spot(self):
        for seed in range(60):
            model = Machine(*bent_hopeless_parts(seed))
            rights = Rights(model)
            spots = [rights.first()] if rights.first() is not None else []
            for turn in range(3):
                onward = []
                for spot in spots:
                    has = [sign for sign in answers(model) if rights.behind(spot, sign) is not None]
                    self.assertEqual(rights.may(spot), has)
                    self.assertNotEqual(has, [])
                    for ask in model.asks():
                        self.assertIsNotNone(rights.behind(spot, ("ask", ask)))
                    signs = [("ask", ask) for ask in model.asks()] + has
                    onward += [rights.behind(spot, sign) for sign in signs]
                spots = sorted(set(onward), key=repr)


class AgainstMachines(unittest.TestCase):
    """Behind each sign stands a spot just where some machine that keeps to the model has the story with it."""

    def models(self):
        for seed in range(60):
            yield seed, bent_hopeless_parts(seed)
            yield seed, model_parts(seed, *words_for(seed))
            yield seed, taker_parts(seed, *words_for(seed))
            if seed % 4 == 0:
                yield seed, random_parts(seed)

    def hopeful_models(self):
        for seed, parts in self.models():
            try:
                is_hopeless(Machine(*parts), first_charge(Machine(*parts)))
            except TooWide:
                continue
            if Rights(Machine(*parts)).first() is not None:
                yield seed, parts

    def test_each_story_of_spots_is_one_of_a_right_machine(self):
        for seed, parts in self.hopeful_models():
            model = Machine(*parts)
            right = right_machine(model)
            self.assertEqual(keeps(model, right)[0], "keeps", parts)
            rights = Rights(model)
            for length in range(4):
                for story in itertools.product(Plain(*parts).signs()[:6], repeat=length):
                    self.assertEqual(spot_of(rights, story) is not None, is_story(right, list(story)), (parts, story))

    def test_each_story_of_a_right_machine_has_a_spot(self):
        kept = 0
        for seed, parts in self.models():
            model = Machine(*parts)
            rights = Rights(model)
            for other in range(3):
                taker_lists = taker_parts(5 * seed + other, parts[0], parts[1])
                if keeps(model, Machine(*taker_lists))[0] == "keeps":
                    kept += 1
                    for story in Plain(*taker_lists).stories(4):
                        self.assertIsNotNone(spot_of(rights, story), (parts, taker_lists, story))
        self.assertGreater(kept, 60)

    def test_a_model_that_takes_all_asks_has_its_own_stories(self):
        for seed in range(60):
            parts = taker_parts(seed, *words_for(seed))
            rights = Rights(Machine(*parts))
            for story in Plain(*parts).stories(4):
                self.assertIsNotNone(spot_of(rights, story))


class OwnThings(unittest.TestCase):
    def test_spots_asked_again(self):
        rights = Rights(kiosk())
        first = rights.first()
        told = (rights.may(first), rights.behind(first, ("ask", "coin")), rights.behind(first, HUSH))
        for story in itertools.product([("ask", "coin"), ("ask", "card"), ("say", "tea"), HUSH], repeat=3):
            spot_of(rights, story)
            self.assertEqual(rights.first(), first)
            self.assertEqual((rights.may(first), rights.behind(first, ("ask", "coin")), rights.behind(first, HUSH)), told)

    def test_a_changed_list_changes_nothing_told_later(self):
        rights = Rights(kiosk())
        spot = spot_of(rights, [("ask", "coin")])
        for turn in range(3):
            told = rights.may(spot)
            self.assertEqual(told, [("say", "tea"), ("say", "milk"), HUSH])
            self.assertIs(type(told), list)
            told.clear()

    def test_a_spot_is_a_text_a_number_or_a_tuple(self):
        rights = Rights(kiosk())
        for story in ([], [HUSH], [("ask", "coin")], [("ask", "coin"), HUSH], [("ask", "card"), ("ask", "card")]):
            self.assertIn(type(spot_of(rights, story)), (str, int, tuple))

    def test_two_models_by_turns(self):
        one = Machine(["a"], ["x"], ["p"], [("p", A, "p")])
        other = Machine(["a"], ["x"], ["p"], [("p", A, "p"), ("p", X, "p")])
        rights, others = Rights(one), Rights(other)
        for turn in range(3):
            self.assertEqual(rights.may(rights.first()), [HUSH])
            self.assertEqual(others.may(others.first()), [X])
            self.assertEqual(rights.may(rights.behind(rights.first(), A)), [HUSH])
            self.assertEqual(others.may(others.behind(others.first(), A)), [X])

    def test_two_of_one_model(self):
        model = kiosk()
        rights, others = Rights(model), Rights(model)
        rights.behind(rights.first(), ("ask", "coin"))
        self.assertEqual(others.may(others.first()), [HUSH])
        self.assertEqual(others.may(others.behind(others.first(), ("ask", "card"))), [("say", "tea"), ("say", "milk")])

    def test_models_with_more_charges_are_not_refused(self):
        rights = Rights(chain(61))
        self.assertEqual(rights.may(spot_of(rights, [A] * 70)), [HUSH])
        rights = Rights(listened(True))
        self.assertEqual(rights.may(spot_of(rights, [HUSH, A] * 5)), [HUSH])


if __name__ == "__main__":
    unittest.main()
