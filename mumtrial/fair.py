"""Fair trials: those that can blame no machine that keeps to the model."""

from mumtrial.rights import narrow_rights
from mumtrial.trials import leaves


def unfair(M, trial):
    told = leaves(M, trial)
    rights = narrow_rights(M)
    for number, leaf in enumerate(told):
        way, story, word = leaf
        if word == "blame" and rights.has_story(story):
            return number
    return None
