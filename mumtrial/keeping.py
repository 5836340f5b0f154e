"""Keeping to a model: takers, papers that show it, and the least fault where it isn't so."""

from mumtrial.errors import NoMatch, NoTaker
from mumtrial.faces import FaceMap
from mumtrial.machines import STILL, as_keys
from mumtrial.stories import HUSH, first_face, steps_at


def need_match(M, I):
    if M.asks() != I.asks() or M.says() != I.says():
        raise NoMatch("the asks or the says are unlike")


def takes(I, room, ask):
    return any([len(I.goals(here, ("ask", ask))) > 0 for here in [room] + I.led_from(room)])


def need_all_asks_taken(I):
    for room in I.rooms():
        for ask in I.asks():
            if not takes(I, room, ask):
                raise NoTaker(room, ask)


def need_taker(M, I):
    need_match(M, I)
    need_all_asks_taken(I)


def story_to(came, place):
    story = []
    while came[place] is not None:
        place, sign = came[place]
        story.append(sign)
    story.reverse()
    return story


# Pairs of faces behind one story are looked at in the order of their first stories, so the first fault is the least.
def least_fault(model_steps, machine_steps):
    came = {(0, 0): None}
    pairs = [(0, 0)]
    looked = 0
    while looked < len(pairs):
        here = pairs[looked]
        looked += 1
        wanted = model_steps[here[0]]
        for sign, goal in machine_steps[here[1]].items():
            if sign not in wanted:
                # An ask that the model doesn't foresee leads out of its stories: it is no fault.
                if sign[0] != "ask":
                    return (story_to(came, here), sign)
            elif (wanted[sign], goal) not in came:
                came[(wanted[sign], goal)] = (here, sign)
                pairs.append((wanted[sign], goal))
    return None


# The rows that must stand in a paper with the row (room, face); steps tells what is behind the face, and both may be
# told by face or by number. Where nothing is behind a say or hush, None is asked for, which stands in no paper.
def rows_needed(I, room, face, steps):
    rows = []
    for start, sign, goal in I.doors_from(room):
        if sign == STILL:
            rows.append((goal, face))
        elif sign in steps or sign[0] == "say":
            rows.append((goal, steps.get(sign)))
    if I.is_quiet(room):
        rows.append((room, steps.get(HUSH)))
    return rows


def paper_of(model, I):
    first = (I.rooms()[0], 0)
    rows = {first: True}
    waiting = [first]
    while len(waiting) > 0:
        room, number = waiting.pop()
        for row in rows_needed(I, room, number, model.steps[number]):
            if row not in rows:
                rows[row] = True
                waiting.append(row)
    return [(room, model.faces[number]) for room, number in rows]


def keeps(M, I):
    need_taker(M, I)
    model = FaceMap(M)
    fault = least_fault(model.steps, FaceMap(I).steps)
    if fault is None:
        return ("keeps", paper_of(model, I))
    story, sign = fault
    return ("fault", story, sign)


def is_full_face(M, face):
    rooms = as_keys(face)
    return len(face) > 0 and face == tuple([room for room in M.rooms() if room in rooms])


def is_keeping(M, I, paper):
    need_taker(M, I)
    rows = as_keys(paper)
    rooms = as_keys(I.rooms())
    steps = {}
    for room, face in rows:
        if face not in steps:
            if not is_full_face(M, face):
                return False
            steps[face] = steps_at(M, face)
        if room not in rooms or not all([row in rows for row in rows_needed(I, room, face, steps[face])]):
            return False
    return (I.rooms()[0], first_face(M)) in rows
