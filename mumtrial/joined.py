"""Joined machines: two takers side by side, where a word that one says may be told to the other."""

from mumtrial.errors import NoJoin
from mumtrial.keeping import need_all_asks_taken
from mumtrial.machines import MOST_WORDS, STILL, Machine, name_of_number

MOST_JOINED_ROOMS = 10
MOST_JOINED_DOORS = 40


def common(words, others):
    return [word for word in words if word in others]


def wires_of(M, N):
    return common(M.says(), N.asks()) + common(N.says(), M.asks())


def asks_of_both(M, N):
    wires = wires_of(M, N)
    return [ask for ask in M.asks() + N.asks() if ask not in wires]


def is_small(M):
    return len(M.rooms()) <= MOST_JOINED_ROOMS and len(M.doors()) <= MOST_JOINED_DOORS


def need_join(M, N):
    if not is_small(M) or not is_small(N):
        raise NoJoin("more than ten rooms, or more than forty doors")
    if len(common(M.asks(), N.asks())) > 0 or len(common(M.says(), N.says())) > 0:
        raise NoJoin("an ask or a say that both have")
    if len(asks_of_both(M, N)) == 0:
        raise NoJoin("no ask is left")
    if len(asks_of_both(M, N)) > MOST_WORDS or len(M.says() + N.says()) > MOST_WORDS:
        raise NoJoin("more than four asks or says are left")


def alone_from(M, room, wires):
    return [(sign, goal) for start, sign, goal in M.doors_from(room) if sign == STILL or sign[1] not in wires]


def doors_alone(M, N, here, wires):
    one, other = here
    doors = [(here, sign, (goal, other)) for sign, goal in alone_from(M, one, wires)]
    return doors + [(here, sign, (one, goal)) for sign, goal in alone_from(N, other, wires)]


# What a wire is for one of the two: a word that it says, or else an ask of its own.
def wire_goals(M, room, word):
    return M.goals(room, ("say" if word in M.says() else "ask", word))


def doors_together(M, N, here, wires):
    doors = []
    for word in wires:
        others = wire_goals(N, here[1], word)
        for goal in wire_goals(M, here[0], word):
            doors.extend([(here, ("say", word), (goal, other)) for other in others])
    return doors


def pairs_of_rooms(M, N):
    pairs = []
    for room in M.rooms():
        pairs.extend([(room, other) for other in N.rooms()])
    return pairs


def joined(M, N):
    need_join(M, N)
    need_all_asks_taken(M)
    need_all_asks_taken(N)
    wires = wires_of(M, N)
    names = dict([(pair, name_of_number(number)) for number, pair in enumerate(pairs_of_rooms(M, N))])
    doors = []
    for here in names:
        doors.extend(doors_alone(M, N, here, wires) + doors_together(M, N, here, wires))
    named_doors = [(names[start], sign, names[goal]) for start, sign, goal in doors]
    return Machine(asks_of_both(M, N), M.says() + N.says(), list(names.values()), named_doors)
