"""The error classes of the interface: where they stand, and what they hold."""

import copy
import pickle
import unittest

from mumtrial import errors
from mumtrial.errors import (
    NoDepth, NoJoin, NoMachine, NoMatch, NoNumber, NoRight, NoSign, NoTaker, NoText, NoTrial, NoWord, TooWide,
    TrialError,
)

OF_FIELDS = {
    NoMachine: ("part", "number"),
    NoTaker: ("room", "ask"),
    NoTrial: ("way",),
    NoWord: ("number",),
    NoText: ("number",),
}
OF_TEXT = [NoMatch, NoJoin, NoSign, NoDepth, NoNumber, NoRight, TooWide]


class Unshowable:
    def __repr__(self):
        raise RuntimeError("not to be shown")

    __str__ = __repr__


class WhereTheyStand(unittest.TestCase):
    def test_trial_error_is_a_value_error(self):
        self.assertEqual(TrialError.__bases__, (ValueError,))

    def test_each_stands_right_under_trial_error(self):
        for kind in list(OF_FIELDS) + OF_TEXT:
            with self.subTest(kind=kind):
                self.assertEqual(kind.__bases__, (TrialError,))

    def test_each_is_made_in_the_module_and_no_other_is(self):
        there = {thing for thing in vars(errors).values() if isinstance(thing, type)}
        self.assertEqual(there, set(OF_FIELDS) | set(OF_TEXT) | {TrialError})

    def test_no_refusal_is_taken_as_another(self):
        made = [kind(*names) for kind, names in OF_FIELDS.items()] + [kind("words") for kind in OF_TEXT]
        for error in made:
            for kind in list(OF_FIELDS) + OF_TEXT:
                self.assertEqual(isinstance(error, kind), type(error) is kind)
            with self.assertRaises(TrialError):
                raise error


class WhatTheyHold(unittest.TestCase):
    def test_fields_are_as_given_whatever_is_given(self):
        given = ["doors", "", "tab\t\n", 0, -1, 10 ** 5000, None, True, (), (0, 1), [], {"a": [1]}, Unshowable()]
        for kind, names in OF_FIELDS.items():
            for number, one in enumerate(given):
                other = given[number - 1]
                error = kind(*(one, other)[:len(names)])
                for name, value in zip(names, (one, other)):
                    self.assertIs(getattr(error, name), value)

    def test_fields_are_given_by_place_or_by_name(self):
        error = NoMachine(number=3, part="says")
        self.assertEqual((error.part, error.number), ("says", 3))
        error = NoTaker(ask="coin", room="hall")
        self.assertEqual((error.room, error.ask), ("hall", "coin"))
        self.assertEqual(NoTrial(way=(0, 2)).way, (0, 2))
        self.assertEqual(NoWord(number=1).number, 1)
        self.assertEqual(NoText(number=2).number, 2)

    def test_two_of_a_kind_hold_their_own(self):
        one = NoMachine("asks", 0)
        other = NoMachine("rooms", 7)
        self.assertEqual((one.part, one.number, other.part, other.number), ("asks", 0, "rooms", 7))

    def test_a_copy_holds_the_same(self):
        for error in (NoMachine("still", 2), NoTaker("hall", "coin"), NoTrial((1,)), NoWord(4), NoText(5)):
            for twin in (copy.copy(error), pickle.loads(pickle.dumps(error))):
                self.assertEqual(vars(twin), vars(error))

    def test_the_others_are_made_of_a_text(self):
        for kind in OF_TEXT:
            self.assertEqual(str(kind("what was wrong")), "what was wrong")


if __name__ == "__main__":
    unittest.main()
