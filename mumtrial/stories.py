"""Stories and faces: where a machine may be behind what was told and heard."""

HUSH = ("hush",)


def signs_in_order(M):
    return [("ask", ask) for ask in M.asks()] + [("say", say) for say in M.says()] + [HUSH]


def with_still(M, rooms):
    found = {}
    for room in rooms:
        # A room that was found has brought along all to which still doors lead from it.
        if room not in found:
            found[room] = True
            for led in M.led_from(room):
                found[led] = True
    return tuple([room for room in M.rooms() if room in found])


def first_face(M):
    return with_still(M, M.rooms()[:1])


def face_behind(M, face, sign):
    if sign == HUSH:
        return tuple([room for room in face if M.is_quiet(room)])
    goals = []
    for room in face:
        goals.extend(M.goals(room, sign))
    return with_still(M, goals)


def face_of(M, story):
    face = first_face(M)
    for sign in story:
        face = face_behind(M, face, sign)
    return face


def is_story(M, story):
    return len(face_of(M, story)) > 0


# The faces behind the signs with which a story at this face goes on, in the order of signs; an empty one is left out.
def steps_at(M, face):
    steps = {}
    for sign in signs_in_order(M):
        behind = face_behind(M, face, sign)
        if len(behind) > 0:
            steps[sign] = behind
    return steps


# What steps_at tells, each face looked at once: trials and charges come to the same faces again and again.
class KnownSteps:
    def __init__(self, M):
        self.machine = M
        self.known = {}

    def steps_from(self, face):
        if face not in self.known:
            self.known[face] = steps_at(self.machine, face)
        return self.known[face]


def signs_at(M, face):
    signs = {}
    for room in face:
        for door in M.doors_from(room):
            signs[door[1]] = True
    return signs


def may_come(M, face):
    signs = signs_at(M, face)
    coming = [("say", say) for say in M.says() if ("say", say) in signs]
    if any([M.is_quiet(room) for room in face]):
        coming.append(HUSH)
    return coming


def foreseen(M, face):
    signs = signs_at(M, face)
    return [ask for ask in M.asks() if ("ask", ask) in signs]
