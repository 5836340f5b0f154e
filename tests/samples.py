"""Machines and names that several test files take; each call makes new ones."""

import itertools
import random

from mumtrial.errors import NoMachine
from mumtrial.machines import Machine

LETTERS = "abcdefghijklmnopqrstuvwxyz"


def names(count):
    pairs = itertools.product(LETTERS, LETTERS)
    return ["".join(pair) for pair in itertools.islice(pairs, count)]


def refusal(asks, says, rooms, doors):
    """(part, number) of the NoMachine that these are refused with, or None where they are a machine."""
    try:
        Machine(asks, says, rooms, doors)
    except NoMachine as error:
        return (error.part, error.number)
    return None


def kiosk_parts():
    """A kiosk that takes a coin or a card, and gives tea or milk or, by way of the back room, nothing."""
    return (
        ["coin", "card"],
        ["tea", "milk"],
        ["hall", "pay", "brew", "back", "rest"],
        [
            ("back", ("still",), "rest"),
            ("hall", ("ask", "card"), "brew"),
            ("hall", ("ask", "coin"), "pay"),
            ("pay", ("still",), "back"),
            ("pay", ("still",), "brew"),
            ("brew", ("say", "milk"), "hall"),
            ("brew", ("say", "tea"), "hall"),
            ("brew", ("ask", "coin"), "brew"),
            ("rest", ("ask", "coin"), "rest"),
        ],
    )


def kiosk():
    return Machine(*kiosk_parts())


def random_parts(seed):
    """The parts of a machine; its still doors go onward in some order, so that none leads round."""
    chance = random.Random(seed)
    asks = chance.sample(["a", "b", "still", "say"], chance.randint(1, 4))
    says = chance.sample(["x", "y", "hush", "ask"], chance.randint(1, 4))
    rooms = names(chance.randint(1, 6))
    chance.shuffle(rooms)
    onward = list(rooms)
    chance.shuffle(onward)
    doors = [
        (start, sign, goal)
        for start in rooms
        for goal in rooms
        for sign in [("ask", a) for a in asks] + [("say", w) for w in says] + [("still",)]
        if sign != ("still",) or onward.index(start) < onward.index(goal)
    ]
    doors = chance.sample(doors, min(len(doors), chance.randint(0, 3 * len(rooms))))
    return (asks, says, rooms, doors)
