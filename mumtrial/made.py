"""Made trials: those that come from a model itself, numbered without a gap."""

from mumtrial.errors import NoDepth, NoNumber
from mumtrial.stories import HUSH, KnownSteps, first_face
from mumtrial.trials import BLAME, END, need_trial, signed_parts

DEEPEST = 4


def need_depth(d):
    if d < 0 or d > DEEPEST:
        raise NoDepth("a depth is a number from 0 to 4")


def product(numbers):
    whole = 1
    for number in numbers:
        whole = whole * number
    return whole


def trial_from(signs, parts):
    if signs[0][0] == "ask":
        pairs = [(sign[1], part) for sign, part in zip(signs[1:], parts[1:])]
        return ("tell", signs[0][1], parts[0], tuple(pairs))
    pairs = [(sign[1], part) for sign, part in zip(signs[:-1], parts[:-1])]
    return ("wait", tuple(pairs), parts[-1])


# The made trials at the faces of a model. Where no face is behind a sign, None stands for it: blame alone is there.
# The tells of one ask, and the waits, are a kind; a kind is told by the signs of its parts.
class Made:
    def __init__(self, M):
        self.says_signs = [("say", say) for say in M.says()]
        self.known_steps = KnownSteps(M)
        self.known_counts = {}

    def steps_from(self, face):
        return self.known_steps.steps_from(face)

    def kinds_at(self, face):
        asks = [sign for sign in self.steps_from(face) if sign[0] == "ask"]
        return [[sign] + self.says_signs for sign in asks] + [self.says_signs + [HUSH]]

    def count_at(self, face, d):
        if face is None or d == 0:
            return 1
        if (face, d) not in self.known_counts:
            counts = [self.count_of(face, d, signs) for signs in self.kinds_at(face)]
            self.known_counts[(face, d)] = 1 + sum(counts)
        return self.known_counts[(face, d)]

    def count_of(self, face, d, signs):
        steps = self.steps_from(face)
        return product([self.count_at(steps.get(sign), d - 1) for sign in signs])

    def trial_at(self, face, d, number):
        if face is None:
            return BLAME
        if number == 0:
            return END
        left = number - 1
        kinds = self.kinds_at(face)
        at = 0
        while left >= self.count_of(face, d, kinds[at]):
            left -= self.count_of(face, d, kinds[at])
            at += 1
        return self.trial_of(face, d, kinds[at], left)

    # The last part turns fastest, so its number comes off first.
    def trial_of(self, face, d, signs, number):
        steps = self.steps_from(face)
        parts = []
        left = number
        for sign in reversed(signs):
            left, own = divmod(left, self.count_at(steps.get(sign), d - 1))
            parts.append(self.trial_at(steps.get(sign), d - 1, own))
        parts.reverse()
        return trial_from(signs, parts)

    def number_at(self, face, d, trial):
        if face is None:
            return 0 if trial == BLAME else None
        if trial == END:
            return 0
        if d == 0:
            return None
        ahead = 1
        for signs in self.kinds_at(face):
            if signs == [sign for sign, part in signed_parts(trial)]:
                own = self.number_of_kind(face, d, trial)
                return None if own is None else ahead + own
            ahead += self.count_of(face, d, signs)
        return None

    def number_of_kind(self, face, d, trial):
        steps = self.steps_from(face)
        number = 0
        for sign, part in signed_parts(trial):
            own = self.number_at(steps.get(sign), d - 1, part)
            if own is None:
                return None
            number = number * self.count_at(steps.get(sign), d - 1) + own
        return number


def how_many_made(M, d):
    need_depth(d)
    return Made(M).count_at(first_face(M), d)


def made_by(M, d, number):
    need_depth(d)
    made = Made(M)
    if number < 0 or number >= made.count_at(first_face(M), d):
        raise NoNumber("no made trial of this number")
    return made.trial_at(first_face(M), d, number)


def number_of(M, d, trial):
    need_trial(M, trial)
    need_depth(d)
    return Made(M).number_at(first_face(M), d, trial)
