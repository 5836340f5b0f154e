"""The right machines of a model, all at once: what some machine that keeps to it may have heard and said."""

from mumtrial.charges import ChargeMap, first_charge, met_map
from mumtrial.stories import HUSH, signs_in_order


# A spot is a tuple (number of a charge, whether silence was heard there last): the widest right machine is loose at a
# charge, or it has been heard to be silent, which it can't take back.
class Rights:
    def __init__(self, M):
        charges = ChargeMap(M, first_charge(M), False)
        self.hopeless = charges.hopeless_ones()
        self.asked = charges.asked
        self.said = charges.said
        self.asked_hushed = charges.asked_hushed
        self.answers = [sign for sign in signs_in_order(M) if sign[0] != "ask"]

    def first(self):
        return None if 0 in self.hopeless else (0, False)

    def may_be_silent(self, number):
        silent = self.asked_hushed[number]
        return silent is not None and not any([behind in self.hopeless for behind in silent.values()])

    def numbers_at(self, spot):
        number, was_heard = spot
        if was_heard:
            return self.asked_hushed[number]
        numbers = dict(self.asked[number])
        numbers.update(self.said[number])
        return numbers

    def behind(self, spot, sign):
        if sign == HUSH:
            number = spot[0]
            return (number, True) if self.may_be_silent(number) else None
        goal = self.numbers_at(spot).get(sign)
        return None if goal is None or goal in self.hopeless else (goal, False)

    def may(self, spot):
        return [sign for sign in self.answers if self.behind(spot, sign) is not None]

    def has_story(self, story):
        spot = self.first()
        for sign in story:
            if spot is None:
                return False
            spot = self.behind(spot, sign)
        return spot is not None


# Rights goes on with wide models, too; whatever else stands on it refuses them.
def narrow_rights(M):
    met_map(M)
    return Rights(M)
