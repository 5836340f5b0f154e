"""Hidden words: a machine some of whose says aren't heard any more."""

from mumtrial.errors import NoWord
from mumtrial.machines import STILL, Machine, as_keys


def need_says(M, words):
    says = M.says()
    ahead = {}
    for number, word in enumerate(words):
        if word not in says or word in ahead:
            raise NoWord(number)
        ahead[word] = True
    if len(ahead) == len(says):
        raise NoWord(len(words))


def hidden_sign(sign, words):
    return STILL if sign[0] == "say" and sign[1] in words else sign


def hidden(M, words):
    need_says(M, words)
    doors = [(start, hidden_sign(sign, words), goal) for start, sign, goal in M.doors()]
    says = [say for say in M.says() if say not in words]
    return Machine(M.asks(), says, M.rooms(), list(as_keys(doors)))
