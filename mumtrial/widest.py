"""The widest right machine of a model, or a paper which shows that no machine keeps to it."""

from mumtrial.charges import as_charge, charge_behind, first_charge, hushed, met_map, open_to
from mumtrial.keeping import is_full_face
from mumtrial.machines import STILL, Machine, name_of_number
from mumtrial.rights import narrow_rights
from mumtrial.stories import HUSH, signs_in_order


# Silence that leads from a spot to another one is a still door to a quiet room; silence that leads to the same spot is
# that of the quiet room itself and needs no door.
def spot_doors(rights, spot, signs):
    goals = [(sign, rights.behind(spot, sign)) for sign in signs]
    doors = [(spot, sign, goal) for sign, goal in goals if sign != HUSH and goal is not None]
    return doors + [(spot, STILL, goal) for sign, goal in goals if sign == HUSH and goal not in (None, spot)]


def doors_between_spots(rights, signs):
    spots = [rights.first()]
    found = {rights.first(): True}
    doors = []
    looked = 0
    while looked < len(spots):
        for door in spot_doors(rights, spots[looked], signs):
            doors.append(door)
            if door[2] not in found:
                found[door[2]] = True
                spots.append(door[2])
        looked += 1
    return (spots, doors)


def widest(M):
    rights = narrow_rights(M)
    if rights.first() is None:
        return None
    spots, doors = doors_between_spots(rights, signs_in_order(M))
    names = dict([(spot, name_of_number(number)) for number, spot in enumerate(spots)])
    named_doors = [(names[start], sign, names[goal]) for start, sign, goal in doors]
    return Machine(M.asks(), M.says(), list(names.values()), named_doors)


def hopeless_paper(M):
    found = met_map(M)
    hopeless = found.hopeless_ones()
    if 0 not in hopeless:
        return None
    return [(list(found.charges[number]), why) for number, why in hopeless.items()]


def is_charge(M, charge):
    return charge == as_charge(charge) and all([is_full_face(M, face) for face in charge])


def stands_ahead(charge, ahead):
    return tuple(charge) in ahead


def whys(M):
    asks = [("ask", ask) for ask in M.asks()]
    return asks + [("mute", None)] + [("mute", ask) for ask in M.asks()]


def is_mute(M, charge, ask, ahead):
    opened = open_to(M, charge)
    says = [sign for sign in opened if sign != HUSH]
    if not all([stands_ahead(charge_behind(M, charge, say), ahead) for say in says]):
        return False
    if ask is None:
        return HUSH not in opened
    return stands_ahead(charge_behind(M, hushed(M, charge), ("ask", ask)), ahead)


def is_hopeless_row(M, charge, why, ahead):
    if not is_charge(M, charge) or why not in whys(M):
        return False
    if why[0] == "ask":
        return stands_ahead(charge_behind(M, charge, why), ahead)
    return is_mute(M, charge, why[1], ahead)


def is_hopeless_paper(M, rows):
    met_map(M)
    ahead = {}
    for charge, why in rows:
        if not is_hopeless_row(M, charge, why, ahead):
            return False
        ahead[tuple(charge)] = True
    return stands_ahead(first_charge(M), ahead)
