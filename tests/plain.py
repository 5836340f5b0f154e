"""The document's words taken one by one, over bare lists, slow and without the program: what the tests hold it against."""

import itertools
import math

HUSH = ("hush",)
STILL = ("still",)


class Plain:
    """A machine by sets over its bare lists."""

    def __init__(self, asks, says, rooms, doors):
        self.asks, self.says, self.rooms, self.doors = asks, says, rooms, doors

    def face(self, found):
        found = set(found)
        for step in self.rooms:
            found |= {goal for start, sign, goal in self.doors if sign == ("still",) and start in found}
        return tuple(room for room in self.rooms if room in found)

    def quiet(self, room):
        return not [door for door in self.doors if door[0] == room and door[1][0] in ("say", "still")]

    def behind(self, face, sign):
        if sign == HUSH:
            return tuple(room for room in face if self.quiet(room))
        return self.face(goal for start, there, goal in self.doors if there == sign and start in face)

    def coming(self, face):
        says = [("say", w) for w in self.says if [d for d in self.doors if d[1] == ("say", w) and d[0] in face]]
        return says + [HUSH] * any(self.quiet(room) for room in face)

    def asks_at(self, face):
        return [a for a in self.asks if [d for d in self.doors if d[1] == ("ask", a) and d[0] in face]]

    def first(self):
        return self.face(self.rooms[:1])

    def signs(self):
        return [("ask", a) for a in self.asks] + [("say", w) for w in self.says] + [HUSH]

    def story_key(self, story):
        """By this key stories are sorted into their order."""
        return (len(story), [self.signs().index(sign) for sign in story])

    def stories(self, longest):
        """Each story of at most so many signs with its face, in the order of stories."""
        told = {(): self.first()}
        level = dict(told)
        for length in range(longest):
            longer = {}
            for story, face in level.items():
                for sign in self.signs():
                    behind = self.behind(face, sign)
                    if behind:
                        longer[story + (sign,)] = behind
            told.update(longer)
            level = longer
        return told

    def first_not_taken(self):
        for room in self.rooms:
            for ask in self.asks:
                if ask not in self.asks_at(self.face([room])):
                    return (room, ask)
        return None

    def is_walk(self, story, walk):
        here = self.rooms[0]
        signs = []
        for start, sign, goal in walk:
            silent = sign == HUSH and start == goal and start in self.rooms and self.quiet(start)
            if start != here or not (silent or (start, sign, goal) in self.doors):
                return False
            here = goal
            if sign != STILL:
                signs.append(sign)
        return signs == list(story)


def least_fault(model, machine, longest):
    """(story, sign) of the least fault whose story has at most so many signs, or None."""
    for story, face in model.stories(longest).items():
        mine = machine.first()
        for sign in story:
            mine = machine.behind(mine, sign)
        for sign in machine.coming(mine):
            if sign not in model.coming(face):
                return (list(story), sign)
    return None


def is_paper(model, machine, paper):
    if (machine.rooms[0], model.first()) not in paper:
        return False
    for room, face in paper:
        if room not in machine.rooms or face == () or any(one not in model.rooms for one in face):
            return False
        places = [model.rooms.index(one) for one in face]
        if places != sorted(set(places)):
            return False
        for start, sign, goal in machine.doors:
            if start != room:
                continue
            if sign == STILL:
                so = (goal, face) in paper
            elif sign[0] == "say":
                so = model.behind(face, sign) != () and (goal, model.behind(face, sign)) in paper
            else:
                so = model.behind(face, sign) == () or (goal, model.behind(face, sign)) in paper
            if not so:
                return False
        if machine.quiet(room):
            hushed = model.behind(face, HUSH)
            if hushed == () or (room, hushed) not in paper:
                return False
    return True


def parts(trial):
    """(sign, part) of each part of a trial, in order."""
    if trial[0] == "tell" and len(trial) == 4:
        return [(("ask", trial[1]), trial[2])] + [(("say", w), part) for w, part in trial[3]]
    if trial[0] == "wait" and len(trial) == 3:
        return [(("say", w), part) for w, part in trial[1]] + [(HUSH, trial[2])]
    return []


def all_within(trial, way=(), story=()):
    """(way, story, trial) of each trial within one, itself too, in no order that is promised."""
    found = [(way, list(story), trial)]
    for number, (sign, part) in enumerate(parts(trial)):
        found += all_within(part, way + (number,), story + (sign,))
    return found


def wrong_way(asks, says, trial):
    """The way with which a trial is refused, or None."""
    within = all_within(trial)
    if len(within) > 1000 or max(len(way) for way, story, one in within) >= 8:
        return ()
    wrong = []
    for way, story, one in within:
        words = [sign[1] for sign, part in parts(one) if sign[0] == "say"]
        so = one in (("end",), ("blame",))
        if one[0] == "tell" and len(one) == 4:
            so = one[1] in asks and words == says
        if one[0] == "wait" and len(one) == 3:
            so = words == says
        if not so:
            wrong.append(way)
    return min(wrong, default=None)


def run_blames(machine, trial):
    """Whether some run of the trial ends at blame, run by run."""
    seen = set()
    waiting = [((), trial, machine.rooms[0])]
    while waiting:
        way, here, room = waiting.pop()
        if here == ("blame",):
            return True
        if here == ("end",) or (way, room) in seen:
            continue
        seen.add((way, room))
        for start, sign, goal in machine.doors:
            if start == room and sign == STILL:
                waiting.append((way, here, goal))
        for number, (sign, part) in enumerate(parts(here)):
            if sign == HUSH and machine.quiet(room):
                waiting.append((way + (number,), part, room))
            waiting += [(way + (number,), part, goal) for start, other, goal in machine.doors
                        if (start, other) == (room, sign)]
    return False


def run_end(machine, trial, walk):
    """The word at which the run of this walk ends, or None where the walk isn't that of a run."""
    room, here = machine.rooms[0], trial
    for start, sign, goal in walk:
        silent = sign == HUSH and start == goal and machine.quiet(start)
        if len(here) == 1 or start != room or not (silent or (start, sign, goal) in machine.doors):
            return None
        room = goal
        if sign != STILL:
            if sign not in dict(parts(here)):
                return None
            here = dict(parts(here))[sign]
    return here[0] if len(here) == 1 else None


def made_trials(model, face, depth):
    """All made trials of this depth at the face, in the order of their numbers; only blame at the empty one."""
    if face == ():
        return [("blame",)]
    trials = [("end",)]
    if depth == 0:
        return trials
    says = [("say", w) for w in model.says]
    for ask in model.asks_at(face):
        rows = [made_trials(model, model.behind(face, sign), depth - 1) for sign in [("ask", ask)] + says]
        trials += [("tell", ask, row[0], tuple(zip(model.says, row[1:]))) for row in itertools.product(*rows)]
    rows = [made_trials(model, model.behind(face, sign), depth - 1) for sign in says + [HUSH]]
    trials += [("wait", tuple(zip(model.says, row)), row[-1]) for row in itertools.product(*rows)]
    return trials


def trial_key(model, trial):
    """By this key made trials are sorted by their numbers."""
    if len(trial) == 1:
        return (0,)
    kind = 1 + model.asks.index(trial[1]) if trial[0] == "tell" else 1 + len(model.asks)
    return (kind,) + tuple(trial_key(model, part) for sign, part in parts(trial))


def how_many_made(model, face, depth):
    if face == () or depth == 0:
        return 1
    says = [("say", w) for w in model.says]
    count = 1
    for signs in [[("ask", a)] + says for a in model.asks_at(face)] + [says + [HUSH]]:
        count += math.prod(how_many_made(model, model.behind(face, sign), depth - 1) for sign in signs)
    return count


def charge_behind(model, charge, sign):
    return frozenset(model.behind(face, sign) for face in charge) - {()}


def hushed(model, charge):
    return charge | charge_behind(model, charge, HUSH)


def open_to(model, charge):
    return [sign for sign in model.signs() if sign[0] != "ask" and all(sign in model.coming(face) for face in charge)]


def next_charges(model, charge):
    asks = [("ask", a) for a in model.asks]
    onward = [charge_behind(model, charge, sign) for sign in asks]
    for sign in open_to(model, charge):
        if sign == HUSH:
            onward += [charge_behind(model, hushed(model, charge), ask) for ask in asks]
        else:
            onward.append(charge_behind(model, charge, sign))
    return onward


def met_charges(model, most=10 ** 9):
    """The met charges, as sets; where there are more than so many, not all of them."""
    found = {frozenset([model.first()])}
    waiting = list(found)
    while waiting and len(found) <= most:
        for charge in next_charges(model, waiting.pop()):
            if charge not in found:
                found.add(charge)
                waiting.append(charge)
    return found


def hopeful_charges(model):
    """The met charges that aren't hopeless: from all of them on, those are left out for which nothing is left to do."""
    asks = [("ask", a) for a in model.asks]
    left = met_charges(model)
    while True:
        stay = set()
        for charge in left:
            silence = HUSH in open_to(model, charge) and all(
                charge_behind(model, hushed(model, charge), ask) in left for ask in asks)
            speech = any(charge_behind(model, charge, sign) in left for sign in open_to(model, charge) if sign != HUSH)
            if (silence or speech) and all(charge_behind(model, charge, ask) in left for ask in asks):
                stay.add(charge)
        if stay == left:
            return left
        left = stay


def is_charge(model, charge):
    for face in charge:
        places = [model.rooms.index(room) if room in model.rooms else -1 for room in face]
        if places == [] or places[0] < 0 or min(places) < 0 or places != sorted(set(places)):
            return False
    return charge == sorted(set(charge))


def is_hopeless_row(model, charge, why, ahead):
    """Whether a row of a hopeless paper is so, behind these charges (sets)."""
    charge = frozenset(charge)
    kind, ask = why
    if kind == "ask":
        return ask in model.asks and charge_behind(model, charge, why) in ahead
    if kind != "mute":
        return False
    for sign in open_to(model, charge):
        if sign != HUSH and charge_behind(model, charge, sign) not in ahead:
            return False
    if ask is None:
        return HUSH not in open_to(model, charge)
    return ask in model.asks and charge_behind(model, hushed(model, charge), ("ask", ask)) in ahead


def is_hopeless_paper(model, rows):
    ahead = []
    for charge, why in rows:
        if not is_charge(model, charge) or not is_hopeless_row(model, charge, why, ahead):
            return False
        ahead.append(frozenset(charge))
    return frozenset([model.first()]) in ahead
