"""A machine's text, shown and read."""

from mumtrial.errors import NoText
from mumtrial.machines import Machine

HEADS = ("asks", "says", "rooms")


def row_of_door(door):
    start, sign, goal = door
    return " ".join([start] + list(sign) + [goal])


def shown(M):
    rows = [["asks"] + M.asks(), ["says"] + M.says(), ["rooms"] + M.rooms()]
    lines = [" ".join(row) for row in rows] + [row_of_door(door) for door in M.doors()]
    return "".join([line + "\n" for line in lines])


def is_head(words, head):
    return len(words) > 1 and words[0] == head


def is_door(words):
    if len(words) == 3:
        return words[1] == "still"
    return len(words) == 4 and words[1] in ("ask", "say")


# Two blanks together, and one at either end, leave a word without signs.
def is_row(words, number):
    if "" in words:
        return False
    return is_head(words, HEADS[number]) if number < len(HEADS) else is_door(words)


# What stands behind the last line feed is a row that isn't ended, where it has a sign.
def need_rows(ended, rest):
    for number, words in enumerate(ended):
        if not is_row(words, number):
            raise NoText(number)
    if rest != "" or len(ended) < len(HEADS):
        raise NoText(len(ended))


def door_of(words):
    return (words[0], tuple(words[1:-1]), words[-1])


def read(text):
    lines = text.split("\n")
    ended = [line.split(" ") for line in lines[:-1]]
    need_rows(ended, lines[-1])
    asks, says, rooms = [words[1:] for words in ended[:len(HEADS)]]
    return Machine(asks, says, rooms, [door_of(words) for words in ended[len(HEADS):]])
