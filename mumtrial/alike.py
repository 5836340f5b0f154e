"""Models that are alike: the same machines keep to both."""

from mumtrial.keeping import need_match, story_to
from mumtrial.rights import narrow_rights
from mumtrial.stories import signs_in_order


def is_parted(pair):
    return (pair[0] is None) != (pair[1] is None)


# Pairs of spots behind one story are looked at in the order of their first stories, so the first that parts is told.
def first_parting(rights, others, signs):
    first = (rights.first(), others.first())
    came = {first: None}
    pairs = [first]
    looked = 0
    while looked < len(pairs):
        here = pairs[looked]
        looked += 1
        for sign in signs:
            there = (rights.behind(here[0], sign), others.behind(here[1], sign))
            if is_parted(there):
                return story_to(came, here) + [sign]
            if there[0] is not None and there not in came:
                came[there] = (here, sign)
                pairs.append(there)
    return None


def parted(M, N):
    need_match(M, N)
    rights = narrow_rights(M)
    others = narrow_rights(N)
    if is_parted((rights.first(), others.first())):
        return []
    if rights.first() is None:
        return None
    return first_parting(rights, others, signs_in_order(M))
