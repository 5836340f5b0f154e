"""Sittings: a machine is heard sign by sign, and blamed as soon as no right one could have been heard so."""

from mumtrial.errors import NoRight, NoSign, NoWord
from mumtrial.rights import narrow_rights
from mumtrial.stories import signs_in_order


# The spots are those behind each sign of the story, the first ahead of all; None from the blamed sign on.
class Sitting:
    def __init__(self, M):
        self.rights = narrow_rights(M)
        if self.rights.first() is None:
            raise NoRight("no machine keeps to the model")
        self.known_signs = signs_in_order(M)
        self.heard = []
        self.spots = [self.rights.first()]

    def hear(self, sign):
        if sign not in self.known_signs:
            raise NoWord(0)
        spot = self.spots[-1]
        self.heard.append(sign)
        self.spots.append(None if spot is None else self.rights.behind(spot, sign))

    def story(self):
        return list(self.heard)

    def blamed_at(self):
        if self.spots[-1] is not None:
            return None
        return self.spots.index(None) - 1

    def next_right(self):
        spot = self.spots[-1]
        return [] if spot is None else self.rights.may(spot)

    def back(self):
        if len(self.heard) == 0:
            raise NoSign("no sign was heard")
        self.heard.pop()
        self.spots.pop()
