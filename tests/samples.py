"""Machines and names that several test files take; each call makes new ones."""

import itertools
import random

from mumtrial.errors import NoMachine
from mumtrial.machines import Machine

LETTERS = "abcdefghijklmnopqrstuvwxyz"


def names(count):
    pairs = itertools.product(LETTERS, LETTERS)
    return ["".join(pair) for pair in itertools.islice(pairs, count)]


def refusal(asks, says, rooms, doors):
    """(part, number) of the NoMachine that these are refused with, or None where they are a machine."""
    try:
        Machine(asks, says, rooms, doors)
    except NoMachine as error:
        return (error.part, error.number)
    return None


def kiosk_parts():
    """A kiosk that takes a coin or a card, and gives tea or milk or, by way of the back room, nothing."""
    return (
        ["coin", "card"],
        ["tea", "milk"],
        ["hall", "pay", "brew", "back", "rest"],
        [
            ("back", ("still",), "rest"),
            ("hall", ("ask", "card"), "brew"),
            ("hall", ("ask", "coin"), "pay"),
            ("pay", ("still",), "back"),
            ("pay", ("still",), "brew"),
            ("brew", ("say", "milk"), "hall"),
            ("brew", ("say", "tea"), "hall"),
            ("brew", ("ask", "coin"), "brew"),
            ("rest", ("ask", "coin"), "rest"),
        ],
    )


def kiosk():
    return Machine(*kiosk_parts())


def random_parts(seed):
    """The parts of a machine; its still doors go onward in some order, so that none leads round."""
    chance = random.Random(seed)
    asks = chance.sample(["a", "b", "still", "say"], chance.randint(1, 4))
    says = chance.sample(["x", "y", "hush", "ask"], chance.randint(1, 4))
    rooms = names(chance.randint(1, 6))
    chance.shuffle(rooms)
    onward = list(rooms)
    chance.shuffle(onward)
    doors = [
        (start, sign, goal)
        for start in rooms
        for goal in rooms
        for sign in [("ask", a) for a in asks] + [("say", w) for w in says] + [("still",)]
        if sign != ("still",) or onward.index(start) < onward.index(goal)
    ]
    doors = chance.sample(doors, min(len(doors), chance.randint(0, 3 * len(rooms))))
    return (asks, says, rooms, doors)


def taker_parts(seed, asks, says, most_rooms=4):
    """The parts of a taker of these words; where an ask would not be taken, a door is put in."""
    chance = random.Random(seed)
    rooms = names(chance.randint(1, most_rooms))
    chance.shuffle(rooms)
    doors = []
    for number, start in enumerate(rooms):
        for ask in asks:
            for goal in chance.sample(rooms, chance.choice([1, 1, 1, min(2, len(rooms))])):
                doors.append((start, ("ask", ask), goal))
        for say in says:
            if chance.random() < 0.4:
                doors.append((start, ("say", say), chance.choice(rooms)))
        if number > 0 and chance.random() < 0.35:
            doors.append((start, ("still",), chance.choice(rooms[:number])))
    chance.shuffle(doors)
    turned = list(rooms)
    chance.shuffle(turned)
    return (list(asks), list(says), turned, doors)


def model_parts(seed, asks, says, most_rooms=4):
    """The parts of a model of these words, one that need not take all asks."""
    asks, says, rooms, doors = taker_parts(seed, asks, says, most_rooms)
    chance = random.Random(seed + 1)
    doors = [door for door in doors if door[1][0] != "ask" or chance.random() < 0.7]
    return (asks, says, rooms, doors)


def words_for(seed):
    """A list of one or two asks and one of one or two says."""
    return (["a", "b"][:1 + seed % 2], ["x", "y"][:1 + seed // 2 % 2])


def two_rounds(one, other):
    """A taker of one ask whose faces are the first room and pairs of a room of each of two rounds, unlike in length."""
    ins = ["in" + name for name in names(one)]
    outs = ["out" + name for name in names(other)]
    doors = [("start", ("ask", "a"), ins[0]), ("start", ("ask", "a"), outs[0])]
    for rooms in (ins, outs):
        doors += [(rooms[number - 1], ("ask", "a"), rooms[number]) for number in range(len(rooms))]
    return Machine(["a"], ["x"], ["start"] + ins + outs, doors)
