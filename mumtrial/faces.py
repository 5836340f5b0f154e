"""A machine's faces, each with its first story, and how many stories it has."""

from mumtrial.errors import TooWide
from mumtrial.stories import first_face, steps_at

MOST_FACES = 400


# Faces bear their numbers in the order of their first stories: they are looked at in this order, sign by sign in the
# order of signs, so that each is come to by its first story first.
class FaceMap:
    def __init__(self, M):
        self.machine = M
        self.faces = []
        self.first_stories = []
        self.numbers = {}
        self.steps = []
        self.number_at(first_face(M), [])
        while len(self.steps) < len(self.faces):
            self.steps.append(self.numbered_steps(len(self.steps)))

    def number_at(self, face, story):
        if face not in self.numbers:
            if len(self.faces) == MOST_FACES:
                raise TooWide("more than 400 faces")
            self.numbers[face] = len(self.faces)
            self.faces.append(face)
            self.first_stories.append(story)
        return self.numbers[face]

    def numbered_steps(self, number):
        steps = {}
        for sign, face in steps_at(self.machine, self.faces[number]).items():
            steps[sign] = self.number_at(face, self.first_stories[number] + [sign])
        return steps


def faces_of(M):
    found = FaceMap(M)
    return list(zip(found.faces, found.first_stories))


# Each story has one face, so the stories of one sign more are counted face by face.
def counts_one_sign_on(steps, counts):
    longer = {}
    for number, count in counts.items():
        for goal in steps[number].values():
            longer[goal] = longer.get(goal, 0) + count
    return longer


def how_many(M, n):
    steps = FaceMap(M).steps
    if n < 0:
        return 0
    counts = {0: 1}
    for turn in range(n):
        counts = counts_one_sign_on(steps, counts)
    return sum(counts.values())
