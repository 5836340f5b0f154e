"""Charges: what is left to keep to for a machine that doesn't know whether its silence was heard."""

from mumtrial.errors import TooWide
from mumtrial.machines import as_keys
from mumtrial.stories import HUSH, KnownSteps, face_behind, first_face, may_come, signs_in_order

MOST_MET = 60
MOST_FACES_IN_ONE = 16


def as_charge(faces):
    return sorted(as_keys([face for face in faces if len(face) > 0]))


def first_charge(M):
    return [first_face(M)]


def charge_behind(M, charge, sign):
    return as_charge([face_behind(M, face, sign) for face in charge])


def hushed(M, charge):
    return as_charge(charge + charge_behind(M, charge, HUSH))


def open_to(M, charge):
    opened = [sign for sign in signs_in_order(M) if sign[0] != "ask"]
    for face in charge:
        coming = may_come(M, face)
        opened = [sign for sign in opened if sign in coming]
    return opened


# The charges that are met from one on, numbered, and what stands behind each of them: behind asks, behind open says,
# and behind asks of the hushed one, the last None where silence isn't open.
class ChargeMap:
    def __init__(self, M, charge, is_bounded):
        self.signs = signs_in_order(M)
        self.known_steps = KnownSteps(M)
        self.is_bounded = is_bounded
        self.charges = []
        self.charge_numbers = {}
        self.asked = []
        self.said = []
        self.asked_hushed = []
        self.charge_number(tuple(charge))
        while len(self.asked) < len(self.charges):
            self.look_behind(self.charges[len(self.asked)])

    def charge_number(self, charge):
        if charge not in self.charge_numbers:
            if self.is_bounded and (len(self.charges) == MOST_MET or len(charge) > MOST_FACES_IN_ONE):
                raise TooWide("more than sixty charges, or more than sixteen faces in one")
            self.charge_numbers[charge] = len(self.charges)
            self.charges.append(charge)
        return self.charge_numbers[charge]

    def faces_behind(self, charge, sign):
        return [self.known_steps.steps_from(face).get(sign, ()) for face in charge]

    def is_open(self, charge, sign):
        return all([len(face) > 0 for face in self.faces_behind(charge, sign)])

    def numbers_behind(self, charge, signs):
        numbers = {}
        for sign in signs:
            numbers[sign] = self.charge_number(tuple(as_charge(self.faces_behind(charge, sign))))
        return numbers

    def look_behind(self, charge):
        asks = [sign for sign in self.signs if sign[0] == "ask"]
        says = [sign for sign in self.signs if sign[0] == "say" and self.is_open(charge, sign)]
        self.asked.append(self.numbers_behind(charge, asks))
        self.said.append(self.numbers_behind(charge, says))
        if self.is_open(charge, HUSH):
            silent = as_charge(list(charge) + self.faces_behind(charge, HUSH))
            self.asked_hushed.append(self.numbers_behind(silent, asks))
        else:
            self.asked_hushed.append(None)

    # Why this one must be hopeless, as a paper tells it, where it follows from those that are found already; else None.
    def why_hopeless(self, number, hopeless):
        for sign, behind in self.asked[number].items():
            if behind in hopeless:
                return sign
        if not all([behind in hopeless for behind in self.said[number].values()]):
            return None
        if self.asked_hushed[number] is None:
            return ("mute", None)
        for sign, behind in self.asked_hushed[number].items():
            if behind in hopeless:
                return ("mute", sign[1])
        return None

    # Just those that must be, each with its why: from none on, as long as one more must be. So each stands behind those
    # from which it follows.
    def hopeless_ones(self):
        hopeless = {}
        found = -1
        while found < len(hopeless):
            found = len(hopeless)
            for number in range(len(self.charges)):
                why = None if number in hopeless else self.why_hopeless(number, hopeless)
                if why is not None:
                    hopeless[number] = why
        return hopeless


def met_map(M):
    return ChargeMap(M, first_charge(M), True)


def met(M):
    return [list(charge) for charge in met_map(M).charges]


# The charge is looked at from itself on, behind the look that refuses wide models: a met one meets met ones alone.
def is_hopeless(M, charge):
    met_map(M)
    return 0 in ChargeMap(M, charge, False).hopeless_ones()
