"""Point 2: nothing handed in is changed or kept, what is told is the asker's own and just of its kind."""

import copy
import unittest

from mumtrial.machines import Machine
from mumtrial.stories import face_behind, face_of, first_face, foreseen, is_story, may_come
from tests.samples import kiosk, kiosk_parts, random_parts, refusal

HUSH = ("hush",)
COIN = ("ask", "coin")
WIDE = ("pay", "brew", "back", "rest")


def all_told(machine):
    """All that the machine and its faces tell, as one value."""
    rooms = machine.rooms()
    signs = [("ask", a) for a in machine.asks()] + [("say", w) for w in machine.says()] + [HUSH]
    faces = [first_face(machine), tuple(rooms), ()] + [(room,) for room in rooms]
    return copy.deepcopy([
        machine.asks(), machine.says(), rooms, machine.doors(),
        [(machine.is_quiet(room), machine.doors_from(room)) for room in rooms],
        [(may_come(machine, face), foreseen(machine, face)) for face in faces],
        [face_behind(machine, face, sign) for face in faces for sign in signs],
        [(face_of(machine, [one, other]), is_story(machine, [one, other])) for one in signs for other in signs],
    ])


class HandedIn(unittest.TestCase):
    def test_nothing_is_changed(self):
        parts, twin = kiosk_parts(), kiosk_parts()
        machine = Machine(*parts)
        story = [COIN, HUSH]
        face_of(machine, story)
        is_story(machine, story)
        all_told(machine)
        self.assertEqual(parts, twin)
        self.assertEqual(story, [COIN, HUSH])

    def test_nothing_is_changed_where_it_is_refused(self):
        for number, wrong in ((0, "A"), (1, "coin"), (2, "hall"), (3, ("pay", ("still",), "pay"))):
            parts, twin = kiosk_parts(), kiosk_parts()
            parts[number].append(wrong)
            twin[number].append(wrong)
            self.assertIsNotNone(refusal(*parts))
            self.assertEqual(parts, twin)

    def test_lists_changed_behind_the_call(self):
        for change in (lambda part: part.clear(), lambda part: part.reverse(), lambda part: part.append(part[0]),
                       lambda part: part.pop(0)):
            for number in range(4):
                parts = kiosk_parts()
                machine = Machine(*parts)
                change(parts[number])
                self.assertEqual(all_told(machine), all_told(kiosk()))

    def test_lists_changed_behind_the_first_telling(self):
        parts = kiosk_parts()
        machine = Machine(*parts)
        told = all_told(machine)
        for part in parts:
            part.clear()
        self.assertEqual(all_told(machine), told)

    def test_one_list_handed_in_twice(self):
        rooms = ["p", "q"]
        machine = Machine(rooms, ["x"], rooms, [("p", ("ask", "q"), "q")])
        machine.asks().append("r")
        rooms.append("s")
        self.assertEqual((machine.asks(), machine.rooms()), (["p", "q"], ["p", "q"]))

    def test_a_story_changed_behind_the_call(self):
        machine = kiosk()
        story = [COIN]
        face = face_of(machine, story)
        story.append(HUSH)
        self.assertEqual(face, WIDE)
        self.assertEqual(face_of(machine, story), ("rest",))
        self.assertEqual(face_of(machine, [COIN]), WIDE)


class Told(unittest.TestCase):
    def tellings(self, machine):
        return [
            machine.asks, machine.says, machine.rooms, machine.doors, lambda: machine.doors_from("hall"),
            lambda: machine.doors_from("back"), lambda: may_come(machine, WIDE), lambda: may_come(machine, ()),
            lambda: foreseen(machine, ("hall",)), lambda: foreseen(machine, ()),
        ]

    def test_told_lists_that_are_changed_change_nothing(self):
        machine = kiosk()
        for tell in self.tellings(machine):
            told = tell()
            told.append("more")
            told.insert(0, told[-1])
            told.reverse()
            self.assertEqual(all_told(machine), all_told(kiosk()))
            told.clear()
            self.assertEqual(all_told(machine), all_told(kiosk()))

    def test_each_telling_is_a_new_list(self):
        for tell in self.tellings(kiosk()):
            self.assertIsNot(tell(), tell())
            self.assertEqual(tell(), tell())

    def test_lists_are_lists(self):
        for tell in self.tellings(kiosk()):
            self.assertIs(type(tell()), list)

    def test_faces_are_tuples(self):
        machine = kiosk()
        for face in (first_face(machine), face_behind(machine, WIDE, COIN), face_behind(machine, WIDE, HUSH),
                     face_behind(machine, (), HUSH), face_behind(machine, (), COIN), face_of(machine, []),
                     face_of(machine, [COIN]), face_of(machine, [HUSH]), face_of(machine, [("say", "none")])):
            self.assertIs(type(face), tuple)

    def test_signs_and_doors_are_tuples_words_are_texts(self):
        machine = kiosk()
        self.assertEqual({type(sign) for sign in may_come(machine, WIDE)}, {tuple})
        self.assertEqual({type(door) for door in machine.doors() + machine.doors_from("pay")}, {tuple})
        self.assertEqual({type(word) for word in foreseen(machine, ("hall",))}, {str})

    def test_truths_are_truths(self):
        machine = kiosk()
        for room in machine.rooms():
            self.assertIs(type(machine.is_quiet(room)), bool)
        for story in ([], [COIN], [HUSH], [("say", "tea")], [COIN, HUSH]):
            self.assertIs(type(is_story(machine, story)), bool)


class SeveralMachines(unittest.TestCase):
    def test_two_by_turns_do_not_touch_one_another(self):
        asks, says, rooms, doors = kiosk_parts()
        other_parts = (asks[::-1], says[::-1], rooms[::-1], [door for door in doors if door[1] != ("still",)])
        alone = [all_told(kiosk()), all_told(Machine(*other_parts))]
        self.assertNotEqual(alone[0], alone[1])
        one = kiosk()
        other = Machine(*other_parts)
        for turn in range(3):
            self.assertEqual([all_told(one), all_told(other)], alone)
        self.assertEqual(face_of(one, [COIN]), WIDE)
        self.assertEqual(first_face(other), ("rest",))
        self.assertEqual(face_of(one, [COIN]), WIDE)

    def test_two_of_the_same_lists(self):
        parts = random_parts(5)
        one, other = Machine(*parts), Machine(*parts)
        told = all_told(one)
        for tell in (one.asks, one.says, one.rooms, one.doors):
            tell().clear()
        self.assertEqual(all_told(other), told)
        self.assertEqual(all_told(one), told)

    def test_a_refused_one_leaves_the_others_as_they_were(self):
        machine = kiosk()
        told = all_told(machine)
        asks, says, rooms, doors = kiosk_parts()
        self.assertEqual(refusal(asks, says, rooms, doors + [("rest", ("still",), "pay")]), ("still", 1))
        self.assertEqual(all_told(machine), told)


if __name__ == "__main__":
    unittest.main()
