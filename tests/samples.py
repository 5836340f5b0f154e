"""Machines and names that several test files take; each call makes new ones."""

import itertools
import random

from mumtrial.errors import NoMachine
from mumtrial.machines import Machine
from tests.plain import Plain

LETTERS = "abcdefghijklmnopqrstuvwxyz"


def names(count):
    pairs = itertools.product(LETTERS, LETTERS)
    return ["".join(pair) for pair in itertools.islice(pairs, count)]


def refusal(asks, says, rooms, doors):
    """(part, number) of the NoMachine that these are refused with, or None where they are a machine."""
    try:
        Machine(asks, says, rooms, doors)
    except NoMachine as error:
        return (error.part, error.number)
    return None


def kiosk_parts():
    """A kiosk that takes a coin or a card, and gives tea or milk or, by way of the back room, nothing."""
    return (
        ["coin", "card"],
        ["tea", "milk"],
        ["hall", "pay", "brew", "back", "rest"],
        [
            ("back", ("still",), "rest"),
            ("hall", ("ask", "card"), "brew"),
            ("hall", ("ask", "coin"), "pay"),
            ("pay", ("still",), "back"),
            ("pay", ("still",), "brew"),
            ("brew", ("say", "milk"), "hall"),
            ("brew", ("say", "tea"), "hall"),
            ("brew", ("ask", "coin"), "brew"),
            ("rest", ("ask", "coin"), "rest"),
        ],
    )


def kiosk():
    return Machine(*kiosk_parts())


def random_parts(seed):
    """The parts of a machine; its still doors go onward in some order, so that none leads round."""
    chance = random.Random(seed)
    asks = chance.sample(["a", "b", "still", "say"], chance.randint(1, 4))
    says = chance.sample(["x", "y", "hush", "ask"], chance.randint(1, 4))
    rooms = names(chance.randint(1, 6))
    chance.shuffle(rooms)
    onward = list(rooms)
    chance.shuffle(onward)
    doors = [
        (start, sign, goal)
        for start in rooms
        for goal in rooms
        for sign in [("ask", a) for a in asks] + [("say", w) for w in says] + [("still",)]
        if sign != ("still",) or onward.index(start) < onward.index(goal)
    ]
    doors = chance.sample(doors, min(len(doors), chance.randint(0, 3 * len(rooms))))
    return (asks, says, rooms, doors)


def taker_parts(seed, asks, says, most_rooms=4):
    """The parts of a taker of these words; where an ask would not be taken, a door is put in."""
    chance = random.Random(seed)
    rooms = names(chance.randint(1, most_rooms))
    chance.shuffle(rooms)
    doors = []
    for number, start in enumerate(rooms):
        for ask in asks:
            for goal in chance.sample(rooms, chance.choice([1, 1, 1, min(2, len(rooms))])):
                doors.append((start, ("ask", ask), goal))
        for say in says:
            if chance.random() < 0.4:
                doors.append((start, ("say", say), chance.choice(rooms)))
        if number > 0 and chance.random() < 0.35:
            doors.append((start, ("still",), chance.choice(rooms[:number])))
    chance.shuffle(doors)
    turned = list(rooms)
    chance.shuffle(turned)
    return (list(asks), list(says), turned, doors)


def model_parts(seed, asks, says, most_rooms=4):
    """The parts of a model of these words, one that need not take all asks."""
    asks, says, rooms, doors = taker_parts(seed, asks, says, most_rooms)
    chance = random.Random(seed + 1)
    doors = [door for door in doors if door[1][0] != "ask" or chance.random() < 0.7]
    return (asks, says, rooms, doors)


def with_all_asks(parts, chance):
    """The same with doors put in where an ask isn't taken."""
    asks, says, rooms, doors = parts
    doors = list(doors)
    for room in rooms:
        for ask in asks:
            own = Plain(asks, says, rooms, doors)
            if ask not in own.asks_at(own.face([room])):
                doors.append((room, ("ask", ask), chance.choice(rooms)))
    return (asks, says, rooms, doors)


def near_parts(seed, parts):
    """The parts of a taker near this model: at most two doors put in, left out or led elsewhere, all asks taken."""
    chance = random.Random(seed)
    asks, says, rooms, doors = parts
    doors = list(doors)
    for turn in range(chance.randint(0, 2)):
        kind = chance.randrange(3)
        spoken = [number for number, door in enumerate(doors) if door[1] != ("still",)]
        if kind == 0:
            doors.append((chance.choice(rooms), ("say", chance.choice(says)), chance.choice(rooms)))
        elif kind == 1 and doors:
            doors.pop(chance.randrange(len(doors)))
        elif spoken:
            number = chance.choice(spoken)
            doors[number] = doors[number][:2] + (chance.choice(rooms),)
    return with_all_asks((asks, says, rooms, list(dict.fromkeys(doors))), chance)


def words_for(seed):
    """A list of one or two asks and one of one or two says."""
    return (["a", "b"][:1 + seed % 2], ["x", "y"][:1 + seed // 2 % 2])


def two_rounds(one, other):
    """A taker of one ask whose faces are the first room and pairs of a room of each of two rounds, unlike in length."""
    ins = ["in" + name for name in names(one)]
    outs = ["out" + name for name in names(other)]
    doors = [("start", ("ask", "a"), ins[0]), ("start", ("ask", "a"), outs[0])]
    for rooms in (ins, outs):
        doors += [(rooms[number - 1], ("ask", "a"), rooms[number]) for number in range(len(rooms))]
    return Machine(["a"], ["x"], ["start"] + ins + outs, doors)


def hopeless_parts():
    """The parts of a model to which no machine keeps.

    Nothing but silence may come at first, and again behind a. Who was silent twice can't know what was heard of it: if
    the first silence alone was, then behind b it must say x, if the second alone, y."""
    return (
        ["a", "b"],
        ["x", "y"],
        ["p", "q", "u", "k", "v", "sayx", "sayy"],
        [
            ("p", ("still",), "q"),
            ("p", ("ask", "a"), "v"),
            ("q", ("ask", "a"), "u"),
            ("u", ("still",), "k"),
            ("u", ("ask", "b"), "sayx"),
            ("v", ("ask", "b"), "sayy"),
            ("sayx", ("say", "x"), "sayx"),
            ("sayy", ("say", "y"), "sayy"),
        ],
    )


def hopeless_paper():
    """A right paper of that model, with as few rows as can be."""
    twice = [("u", "k"), ("u", "k", "v")]
    last = [("sayx",), ("sayx", "sayy"), ("sayy",)]
    return [(last, ("mute", None)), (twice, ("mute", "b")), ([("p", "q")], ("mute", "a"))]


def lists_of(machine):
    return (machine.asks(), machine.says(), machine.rooms(), machine.doors())


def two_silences():
    """A model that is silent at first; behind a it says x if its silence was heard, else x or y."""
    return Machine(["a"], ["x", "y"], ["p", "q", "v", "w"], [
        ("p", ("still",), "q"), ("p", ("ask", "a"), "w"), ("q", ("ask", "a"), "v"), ("v", ("say", "x"), "v"),
        ("w", ("say", "y"), "w"), ("v", ("ask", "a"), "v"), ("w", ("ask", "a"), "w")])


def bent_hopeless_parts(seed):
    """The same with some doors put in, left out or led elsewhere: some machine keeps to about every other one."""
    chance = random.Random(seed)
    asks, says, rooms, doors = hopeless_parts()
    signs = [("ask", "a"), ("ask", "b"), ("say", "x"), ("say", "y")]
    for turn in range(chance.randint(1, 3)):
        number = chance.randrange(len(doors))
        kind = chance.randrange(4)
        if kind == 0:
            doors.pop(number)
        elif kind == 1 and doors[number][1] != ("still",):
            doors[number] = doors[number][:2] + (chance.choice(rooms),)
        elif kind == 2:
            doors.append((chance.choice(rooms), chance.choice(signs), chance.choice(rooms)))
        else:
            start, goal = sorted(chance.sample(range(len(rooms)), 2))
            doors.append((rooms[start], ("still",), rooms[goal]))
    return (asks, says, rooms, list(dict.fromkeys(doors)))


def chain(count):
    """A taker of one ask that goes from room to room and stays in the last: each room is a charge by itself."""
    rooms = names(count)
    return Machine(["a"], ["x"], rooms, [(s, ("ask", "a"), g) for s, g in zip(rooms, rooms[1:] + rooms[-1:])])


def listened(one_more):
    """A model of one ask whose faces tell which of its first four silences were heard, as far as can be known.

    Behind four asks, silent ahead of each, sixteen faces are left; behind a fifth as many, or one more, where the fifth
    silence, heard like the four ahead of it, leads to a room of its own."""
    def named(letter, heard):
        return letter + "".join("ny"[one] for one in heard)

    rooms, doors = [], []
    for length in range(4):
        onward = "n" if length < 3 else "e"
        for heard in itertools.product((0, 1), repeat=length):
            loose, silent = named("n", heard), named("k", heard)
            rooms += [loose, silent]
            doors += [(loose, ("still",), silent), (loose, ("ask", "a"), named(onward, heard + (0,))),
                      (silent, ("ask", "a"), named(onward, heard + (1,)))]
    for heard in itertools.product((0, 1), repeat=4):
        rooms += [named("e", heard), named("f", heard)]
        doors += [(named("e", heard), ("ask", "a"), named("f", heard)), (named("f", heard), ("ask", "a"), "z")]
        if sum(heard) == 3:
            doors.append((named("e", heard), ("ask", "a"), "fyyyy"))
    rooms += ["quiet", "own", "z"]
    doors += [("eyyyy", ("still",), "quiet"), ("quiet", ("ask", "a"), "own" if one_more else "fyyyy"),
              ("own", ("ask", "a"), "z"), ("z", ("ask", "a"), "z")]
    return Machine(["a"], ["x"], rooms, doors)
