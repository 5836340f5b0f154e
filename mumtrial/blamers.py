"""Blamers of a taker: how many made trials may blame it, and the first of them."""

from mumtrial.keeping import need_taker
from mumtrial.made import Made, need_depth, product
from mumtrial.stories import KnownSteps, first_face


# A run comes to a part of a trial just where the machine has the story of the signs on the way. So a made trial is held
# against a face of the model and the machine's own face behind the same story, None for an empty one; it may blame just
# where one of its parts may.
class Blamers:
    def __init__(self, M, I):
        self.made = Made(M)
        self.own_steps = KnownSteps(I)
        self.known_harmless = {}
        self.known_firsts = {}

    # face and mine behind each sign of a kind.
    def places(self, face, mine, signs):
        steps = self.made.steps_from(face)
        own = self.own_steps.steps_from(mine)
        return [(steps.get(sign), own.get(sign)) for sign in signs]

    def harmless_at(self, face, mine, d):
        if mine is None:
            return self.made.count_at(face, d)
        if face is None:
            return 0
        if d == 0:
            return 1
        if (face, mine, d) not in self.known_harmless:
            counts = [self.harmless_of(face, mine, d, signs) for signs in self.made.kinds_at(face)]
            self.known_harmless[(face, mine, d)] = 1 + sum(counts)
        return self.known_harmless[(face, mine, d)]

    def harmless_of(self, face, mine, d, signs):
        return product([self.harmless_at(there, own, d - 1) for there, own in self.places(face, mine, signs)])

    def first_at(self, face, mine, d):
        if mine is None:
            return None
        if face is None:
            return 0
        if d == 0:
            return None
        if (face, mine, d) not in self.known_firsts:
            self.known_firsts[(face, mine, d)] = self.first_of_kinds(face, mine, d)
        return self.known_firsts[(face, mine, d)]

    def first_of_kinds(self, face, mine, d):
        ahead = 1
        for signs in self.made.kinds_at(face):
            own = self.first_of_kind(face, mine, d, signs)
            if own is not None:
                return ahead + own
            ahead += self.made.count_of(face, d, signs)
        return None

    # One part that may blame is enough: with each, the least number has 0 for all others.
    def first_of_kind(self, face, mine, d, signs):
        numbers = []
        weight = 1
        for there, own in reversed(self.places(face, mine, signs)):
            first = self.first_at(there, own, d - 1)
            if first is not None:
                numbers.append(first * weight)
            weight = weight * self.made.count_at(there, d - 1)
        return min(numbers, default=None)


def how_many_blame(M, d, I):
    need_taker(M, I)
    need_depth(d)
    blamers = Blamers(M, I)
    face = first_face(M)
    return blamers.made.count_at(face, d) - blamers.harmless_at(face, first_face(I), d)


def first_blamer(M, d, I):
    need_taker(M, I)
    need_depth(d)
    return Blamers(M, I).first_at(first_face(M), first_face(I), d)
