"""Trials: what is told and waited for, and where a machine is to blame."""

from mumtrial.errors import NoTrial
from mumtrial.keeping import need_taker
from mumtrial.stories import HUSH
from mumtrial.walks import walk_of

END = ("end",)
BLAME = ("blame",)
MOST_WITHIN = 8
MOST_TRIALS = 1000


def is_tell(trial):
    return len(trial) == 4 and trial[0] == "tell"


def is_wait(trial):
    return len(trial) == 3 and trial[0] == "wait"


def says_and_parts(pairs):
    return [(("say", word), part) for word, part in pairs]


def signed_parts(trial):
    if is_tell(trial):
        return [(("ask", trial[1]), trial[2])] + says_and_parts(trial[3])
    if is_wait(trial):
        return says_and_parts(trial[1]) + [(HUSH, trial[2])]
    return []


def parts_behind(way, story, trial):
    behind = []
    for number, signed in enumerate(signed_parts(trial)):
        sign, part = signed
        behind.append((way + (number,), story + [sign], part))
    return behind


# All trials within this one with their ways and stories, ways sorted. What waits is counted, too, and too much refused
# at once: a tower of trials that are one and the same tuple has more of them than could ever be walked through.
def with_ways(trial):
    found = []
    waiting = [((), [], trial)]
    while len(waiting) > 0:
        way, story, here = waiting.pop()
        found.append((way, story, here))
        for one in reversed(parts_behind(way, story, here)):
            waiting.append(one)
        if len(way) == MOST_WITHIN or len(found) + len(waiting) > MOST_TRIALS:
            raise NoTrial(())
    return found


def has_says_in_order(M, pairs):
    return [word for word, part in pairs] == M.says()


def is_so_by_itself(M, trial):
    if is_tell(trial):
        return trial[1] in M.asks() and has_says_in_order(M, trial[3])
    if is_wait(trial):
        return has_says_in_order(M, trial[1])
    return trial == END or trial == BLAME


def checked_with_ways(M, trial):
    found = with_ways(trial)
    for way, story, here in found:
        if not is_so_by_itself(M, here):
            raise NoTrial(way)
    return found


def need_trial(M, trial):
    checked_with_ways(M, trial)


def leaves(M, trial):
    return [(way, story, here[0]) for way, story, here in checked_with_ways(M, trial) if len(here) == 1]


# A run to a leaf is a walk of the leaf's story that ends with its last sign, as walk_of tells it.
def blames(M, trial, I):
    need_taker(M, I)
    for way, story, word in leaves(M, trial):
        if word == "blame":
            walk = walk_of(I, story)
            if walk is not None:
                return walk
    return None
