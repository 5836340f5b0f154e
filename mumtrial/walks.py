"""Walks: step by step through a machine's doors, and through silence at its quiet rooms."""

from mumtrial.machines import STILL
from mumtrial.stories import HUSH


# steps tells of each room that was come to behind one sign the step that led to it first.
def add_still_steps(M, steps):
    waiting = list(steps)
    while len(waiting) > 0:
        room = waiting.pop()
        for goal in M.goals(room, STILL):
            if goal not in steps:
                steps[goal] = (room, STILL, goal)
                waiting.append(goal)


def steps_by(M, rooms, sign):
    steps = {}
    for room in rooms:
        if sign == HUSH:
            if M.is_quiet(room):
                steps[room] = (room, HUSH, room)
        else:
            for goal in M.goals(room, sign):
                steps[goal] = (room, sign, goal)
    return steps


def steps_along(M, story):
    steps = {M.rooms()[0]: None}
    along = [steps]
    add_still_steps(M, steps)
    for sign in story:
        steps = steps_by(M, steps, sign)
        along.append(steps)
        add_still_steps(M, steps)
    return along


# Steps are told of the rooms in the order in which they were come to, those by the sign itself ahead of those by still
# doors: so the first room is one to which the last sign itself leads.
def walk_of(M, story):
    along = steps_along(M, story)
    if len(along[-1]) == 0:
        return None
    room = list(along[-1])[0]
    walk = []
    steps = along.pop()
    while steps[room] is not None:
        step = steps[room]
        walk.append(step)
        room = step[0]
        if step[1] != STILL:
            steps = along.pop()
    walk.reverse()
    return walk


def is_step(M, step):
    start, sign, goal = step
    if sign == HUSH:
        return start == goal and M.is_quiet(start)
    return goal in M.goals(start, sign)


def is_walk(M, story, walk):
    room = M.rooms()[0]
    for step in walk:
        if step[0] != room or not is_step(M, step):
            return False
        room = step[2]
    return [step[1] for step in walk if step[1] != STILL] == story
