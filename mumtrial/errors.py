"""The refusals: each stands right under TrialError, and none under another."""


class TrialError(ValueError):
    pass


# The base is handed the bare fields, not a sentence of them: a field may be anything, also what can't be shown.
class NoMachine(TrialError):
    def __init__(self, part, number):
        TrialError.__init__(self, part, number)
        self.part = part
        self.number = number


class NoTaker(TrialError):
    def __init__(self, room, ask):
        TrialError.__init__(self, room, ask)
        self.room = room
        self.ask = ask


class NoTrial(TrialError):
    def __init__(self, way):
        TrialError.__init__(self, way)
        self.way = way


class NoWord(TrialError):
    def __init__(self, number):
        TrialError.__init__(self, number)
        self.number = number


class NoText(TrialError):
    def __init__(self, number):
        TrialError.__init__(self, number)
        self.number = number


class NoMatch(TrialError):
    pass


class NoJoin(TrialError):
    pass


class NoSign(TrialError):
    pass


class NoDepth(TrialError):
    pass


class NoNumber(TrialError):
    pass


class NoRight(TrialError):
    pass


class TooWide(TrialError):
    pass
