"""Several machines at once: made trials that blame many of them, and few that together blame all."""

from mumtrial.keeping import need_taker
from mumtrial.made import Made, need_depth
from mumtrial.stories import KnownSteps, first_face


def weights_of(machines):
    weights = []
    weight = 1
    for machine in machines:
        weights.append(weight)
        weight = weight * 2
    return weights


# Of those that blame the same machines by their parts up to here the first is enough: later parts count for less.
def with_one_more_part(firsts, part_firsts, count):
    longer = {}
    for blamed, number in firsts.items():
        for more, own in part_firsts.items():
            first = number * count + own
            longer[blamed | more] = min(first, longer.get(blamed | more, first))
    return longer


# Each machine has a weight, 1, 2, 4 and so on; which of them a trial may blame is told by the sum of their weights. The
# made trials at a face of the model are held against the machines' own faces behind the same story, None for an empty
# one, and for each such sum the first number is found.
class SeveralBlamers:
    def __init__(self, M, machines):
        self.made = Made(M)
        self.own_steps = [KnownSteps(I) for I in machines]
        self.weights = weights_of(machines)
        self.known_firsts = {}

    def blamed_at(self, mine):
        return sum([weight for weight, own in zip(self.weights, mine) if own is not None])

    def own_behind(self, mine, sign):
        behind = []
        for steps, own in zip(self.own_steps, mine):
            behind.append(None if own is None else steps.steps_from(own).get(sign))
        return tuple(behind)

    def firsts_at(self, face, mine, d):
        if face is None:
            return {self.blamed_at(mine): 0}
        if d == 0 or self.blamed_at(mine) == 0:
            return {0: 0}
        if (face, mine, d) not in self.known_firsts:
            self.known_firsts[(face, mine, d)] = self.firsts_of_kinds(face, mine, d)
        return self.known_firsts[(face, mine, d)]

    def firsts_of_kinds(self, face, mine, d):
        firsts = {0: 0}
        ahead = 1
        for signs in self.made.kinds_at(face):
            for blamed, number in self.firsts_of_kind(face, mine, d, signs).items():
                firsts.setdefault(blamed, ahead + number)
            ahead += self.made.count_of(face, d, signs)
        return firsts

    def firsts_of_kind(self, face, mine, d, signs):
        steps = self.made.steps_from(face)
        firsts = {0: 0}
        for sign in signs:
            there = steps.get(sign)
            part_firsts = self.firsts_at(there, self.own_behind(mine, sign), d - 1)
            firsts = with_one_more_part(firsts, part_firsts, self.made.count_at(there, d - 1))
        return firsts


def firsts_of(M, d, machines):
    for I in machines:
        need_taker(M, I)
    need_depth(d)
    blamers = SeveralBlamers(M, machines)
    return blamers.firsts_at(first_face(M), tuple([first_face(I) for I in machines]), d)


def how_many_in(blamed, weights):
    return len([weight for weight in weights if blamed & weight > 0])


def most_blamed(M, d, machines):
    weights = weights_of(machines)
    counts = [(how_many_in(blamed, weights), number) for blamed, number in firsts_of(M, d, machines).items()]
    most = max([count for count, number in counts])
    return (most, min([number for count, number in counts if count == most]))


def blamed_by_any(firsts):
    together = 0
    for blamed in firsts:
        together = together | blamed
    return together


# What so many trials can blame together is found ahead of what one more can.
def fewest(M, d, machines):
    firsts = firsts_of(M, d, machines)
    wanted = blamed_by_any(firsts)
    chosen = {0: []}
    waiting = [0]
    looked = 0
    while wanted not in chosen:
        here = waiting[looked]
        looked += 1
        for blamed, number in firsts.items():
            if here | blamed not in chosen:
                chosen[here | blamed] = chosen[here] + [number]
                waiting.append(here | blamed)
    return sorted(chosen[wanted])
