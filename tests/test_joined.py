"""Points 25 and 27: which two machines can be joined, the joined one, its stories, what keeps to it."""

import random
import unittest

from mumtrial.errors import NoJoin, NoTaker, TooWide
from mumtrial.joined import joined
from mumtrial.keeping import keeps, need_taker
from mumtrial.machines import Machine
from mumtrial.stories import face_behind, face_of, first_face, is_story
from tests.samples import lists_of, names, near_parts, taker_parts

HUSH = ("hush",)
STILL = ("still",)
A = ("ask", "a")
B = ("ask", "b")
C = ("ask", "c")
X = ("say", "x")
Y = ("say", "y")


def still_standing(asks, says, rooms=1, doors=None):
    """A silent taker of so many rooms and doors, at least one door for each room and ask."""
    own = names(rooms)
    made = [(room, ("ask", ask), room) for room in own for ask in asks]
    more = [(room, ("ask", ask), goal) for room in own for ask in asks for goal in own if goal != room]
    more += [(room, ("say", say), goal) for room in own for say in says for goal in own]
    return Machine(asks, says, own, made + (more[:doors - len(made)] if doors is not None else []))


def server():
    """Told a, it says x; x is a wire to the printer."""
    return Machine(["a"], ["x"], ["idle", "busy"], [("idle", A, "busy"), ("busy", X, "idle"), ("busy", A, "busy")])


def printer():
    """Told x, it says y."""
    return Machine(["x"], ["y"], ["calm", "full"], [
        ("calm", ("ask", "x"), "full"), ("full", Y, "calm"), ("full", ("ask", "x"), "full")])


def heard_by(machine, story):
    """What a machine hears of a story: its own words, as its asks or says, and hush."""
    own = []
    for sign in story:
        if sign == HUSH:
            own.append(sign)
        elif sign[1] in machine.asks():
            own.append(("ask", sign[1]))
        elif sign[1] in machine.says():
            own.append(("say", sign[1]))
    return own


def some_pair(seed):
    """Two takers with other asks and says, with wires one way, both ways or none; None where they can't be joined."""
    chance = random.Random(seed)
    asks = [chance.sample(["a", "b", "y"], chance.randint(1, 2)), chance.sample(["c", "d", "x", "w"], chance.randint(1, 2))]
    says = [chance.sample(["w", "x", "v"], chance.randint(1, 2)), chance.sample(["y", "z"], chance.randint(1, 2))]
    if not set(asks[0] + asks[1]) - set(says[0] + says[1]):
        return None
    return [taker_parts(3 * seed + number, asks[number], says[number], 3) for number in range(2)]


def some_pairs(count):
    for seed in range(count):
        pair = some_pair(seed)
        if pair is not None:
            yield seed, pair


def signs_of(machine):
    return [("ask", a) for a in machine.asks()] + [("say", w) for w in machine.says()] + [HUSH]


class WhichTwo(unittest.TestCase):
    def refused(self, one, other):
        self.assertRaises(NoJoin, joined, one, other)
        self.assertRaises(NoJoin, joined, other, one)

    def taken(self, one, other):
        self.assertIsInstance(joined(one, other), Machine)
        self.assertIsInstance(joined(other, one), Machine)

    def test_just_ten_and_eleven_rooms(self):
        small = still_standing(["b"], ["y"])
        self.taken(still_standing(["a"], ["x"], 10), small)
        self.taken(still_standing(["a"], ["x"], 10), still_standing(["b"], ["y"], 10))
        self.refused(still_standing(["a"], ["x"], 11), small)
        self.refused(still_standing(["a"], ["x"], 30), small)

    def test_just_forty_and_forty_one_doors(self):
        small = still_standing(["b"], ["y"])
        for rooms in (4, 10):
            forty, more = still_standing(["a"], ["x", "w"], rooms, 40), still_standing(["a"], ["x", "w"], rooms, 41)
            self.assertEqual((len(forty.doors()), len(more.doors())), (40, 41))
            self.taken(forty, small)
            self.refused(more, small)

    def test_the_biggest_of_all(self):
        one = still_standing(["a", "y"], ["x", "w"], 10, 40)
        other = still_standing(["b", "x"], ["y", "z"], 10, 40)
        both = joined(one, other)
        self.assertEqual((both.asks(), both.says()), (["a", "b"], ["x", "w", "y", "z"]))
        need_taker(both, both)
        # All doors of the one say its wire, all of the other take it, or nearly so.
        loud = Machine(["a"], ["x"], names(6), [(room, A, room) for room in names(6)] + [
            (start, X, goal) for start in names(6) for goal in names(6)][:34])
        deaf = Machine(["x"], ["y"], names(6), [
            (start, ("ask", "x"), goal) for start in names(6) for goal in names(6)])
        self.assertEqual((len(loud.doors()), len(deaf.doors())), (40, 36))
        self.taken(loud, deaf)

    def test_an_ask_that_both_are_told(self):
        self.refused(still_standing(["a"], ["x"]), still_standing(["a"], ["y"]))
        self.refused(still_standing(["a", "b"], ["x"]), still_standing(["c", "b"], ["y"]))
        self.refused(still_standing(["a"], ["x"]), still_standing(["a", "x"], ["y"]))

    def test_a_say_that_both_say(self):
        self.refused(still_standing(["a"], ["x"]), still_standing(["b"], ["x"]))
        self.refused(still_standing(["a"], ["x", "y"]), still_standing(["b"], ["z", "y"]))
        self.refused(still_standing(["a"], ["x", "b"]), still_standing(["b"], ["x"]))

    def test_one_and_itself(self):
        machine = still_standing(["a"], ["x"])
        self.refused(machine, machine)

    def test_no_ask_left(self):
        self.refused(still_standing(["a"], ["x"]), still_standing(["x"], ["a"]))
        self.refused(still_standing(["a", "b"], ["x"]), still_standing(["x"], ["a", "b"]))
        self.taken(still_standing(["a", "b"], ["x"]), still_standing(["x"], ["a"]))

    def test_just_four_and_five_asks_left(self):
        self.taken(still_standing(["a", "b"], ["x"]), still_standing(["c", "d"], ["y"]))
        self.taken(still_standing(["a", "b", "c"], ["x"]), still_standing(["d"], ["y"]))
        self.refused(still_standing(["a", "b"], ["x"]), still_standing(["c", "d", "e"], ["y"]))
        self.refused(still_standing(["a", "b", "c", "d"], ["x"]), still_standing(["e"], ["y"]))
        # Wires aren't left.
        self.taken(still_standing(["a", "b", "c", "d"], ["x"]), still_standing(["x"], ["y"]))
        self.taken(still_standing(["a", "b", "c", "y"], ["x"]), still_standing(["x", "d"], ["y"]))
        self.refused(still_standing(["a", "b", "c", "d"], ["x"]), still_standing(["x", "e"], ["y"]))

    def test_just_four_and_five_says(self):
        self.taken(still_standing(["a"], ["w", "x"]), still_standing(["b"], ["y", "z"]))
        self.taken(still_standing(["a"], ["w", "x", "y"]), still_standing(["b"], ["z"]))
        self.refused(still_standing(["a"], ["w", "x", "y"]), still_standing(["b"], ["z", "v"]))
        self.refused(still_standing(["a"], ["w", "x", "y", "z"]), still_standing(["b"], ["v"]))
        # A wire stays a say, so it counts.
        self.refused(still_standing(["a"], ["w", "x", "y", "z"]), still_standing(["w", "x"], ["v"]))
        self.taken(still_standing(["a"], ["w", "x", "y"]), still_standing(["w", "x", "y"], ["v"]))


class Refusals(unittest.TestCase):
    def taker_refused(self, one, other):
        with self.assertRaises(NoTaker) as caught:
            joined(one, other)
        return (caught.exception.room, caught.exception.ask)

    def test_no_taker(self):
        taker = still_standing(["a"], ["x"])
        deaf = Machine(["b", "c"], ["y"], ["p", "q", "r"], [("p", B, "p"), ("p", C, "p"), ("q", B, "q"), ("r", C, "q")])
        self.assertEqual(self.taker_refused(taker, deaf), ("q", "c"))
        self.assertEqual(self.taker_refused(deaf, taker), ("q", "c"))

    def test_still_doors_help(self):
        taker = still_standing(["a"], ["x"])
        led = Machine(["b"], ["y"], ["p", "q"], [("p", STILL, "q"), ("q", B, "p")])
        self.assertIsInstance(joined(taker, led), Machine)

    def test_a_wire_must_be_taken_too(self):
        deaf = Machine(["x"], ["y"], ["p"], [])
        self.assertEqual(self.taker_refused(still_standing(["a"], ["x"]), deaf), ("p", "x"))

    def test_of_the_first_ahead_of_the_second(self):
        one, other = Machine(["a"], ["x"], ["p"], []), Machine(["b"], ["y"], ["q"], [])
        self.assertEqual(self.taker_refused(one, other), ("p", "a"))
        self.assertEqual(self.taker_refused(other, one), ("q", "b"))

    def test_no_join_goes_ahead(self):
        deaf = Machine(["a"], ["x"], ["p"], [])
        for other in (Machine(["a"], ["y"], ["p"], []), Machine(["b"], ["x"], ["p"], []), Machine(["x"], ["a"], ["p"], []),
                      Machine(["b"], ["y"], names(11), []), Machine(["b", "c", "d", "e"], ["y"], ["p"], []),
                      Machine(["b"], ["w", "y", "z", "v"], ["p"], []), still_standing(["b"], ["y"], 7, 41)):
            self.assertRaises(NoJoin, joined, deaf, other)
            self.assertRaises(NoJoin, joined, other, deaf)

    def test_a_refusal_changes_nothing(self):
        one, other = server(), printer()
        told = lists_of(joined(one, other))
        self.assertRaises(NoJoin, joined, one, one)
        self.assertRaises(NoTaker, joined, one, Machine(["b"], ["y"], ["p"], []))
        self.assertEqual(lists_of(joined(one, other)), told)


class TheJoinedOne(unittest.TestCase):
    def test_asks_and_says_in_their_order(self):
        both = joined(still_standing(["b", "y", "a"], ["x", "w"]), still_standing(["x", "d", "c"], ["z", "y"]))
        self.assertEqual(both.asks(), ["b", "a", "d", "c"])
        self.assertEqual(both.says(), ["x", "w", "z", "y"])
        both = joined(still_standing(["x", "d", "c"], ["z", "y"]), still_standing(["b", "y", "a"], ["x", "w"]))
        self.assertEqual(both.asks(), ["d", "c", "b", "a"])
        self.assertEqual(both.says(), ["z", "y", "x", "w"])

    def test_a_wire_turns_both_at_once(self):
        both = joined(server(), printer())
        self.assertEqual((both.asks(), both.says()), (["a"], ["x", "y"]))
        self.assertIs(is_story(both, [A, X, Y, HUSH, A, X, A, X, Y]), True)
        self.assertIs(is_story(both, [A, X, X]), False)
        self.assertIs(is_story(both, [A, Y]), False)
        self.assertIs(is_story(both, [A, X, HUSH]), False)
        self.assertIs(is_story(both, [("ask", "x")]), False)

    def test_wires_both_ways(self):
        one = Machine(["a", "y"], ["x"], ["p", "q"], [
            ("p", A, "q"), ("q", X, "p"), ("q", A, "q"), ("p", ("ask", "y"), "q"), ("q", ("ask", "y"), "q")])
        both = joined(one, printer())
        self.assertEqual((both.asks(), both.says()), (["a"], ["x", "y"]))
        self.assertIs(is_story(both, [A] + [X, Y] * 20), True)
        self.assertIs(is_story(both, [A, X, Y, Y]), False)
        self.assertIs(is_story(both, [A, X, HUSH]), False)

    def test_no_wire(self):
        other = Machine(["b"], ["y"], ["r", "s"], [("r", B, "s"), ("s", Y, "r"), ("s", B, "s")])
        both = joined(server(), other)
        for story in ([A, B, X, Y, HUSH], [A, B, Y, X, HUSH], [B, A, Y, X], [A, X, B, Y]):
            self.assertIs(is_story(both, story), True)
        self.assertIs(is_story(both, [A, B, X, HUSH]), False)

    def test_still_doors_of_each(self):
        one = Machine(["a"], ["x"], ["p", "q"], [("p", STILL, "q"), ("p", X, "p"), ("q", A, "p")])
        other = Machine(["x"], ["y"], ["r", "s"], [("r", STILL, "s"), ("r", Y, "r"), ("s", ("ask", "x"), "r")])
        both = joined(one, other)
        self.assertEqual(len(first_face(both)), 4)
        for story in ([HUSH], [X], [Y], [X, Y, X, HUSH], [Y, HUSH, A, X]):
            self.assertIs(is_story(both, story), True)
        self.assertIs(is_story(both, [HUSH, X]), False)
        self.assertIs(is_story(both, [HUSH, A, Y]), False)

    def test_a_wire_waits_for_still_doors_of_the_one_that_is_told(self):
        other = Machine(["x"], ["y"], ["r", "s", "t"], [
            ("r", STILL, "s"), ("s", ("ask", "x"), "t"), ("t", Y, "t"), ("t", ("ask", "x"), "t")])
        both = joined(server(), other)
        self.assertIs(is_story(both, [A, X, Y]), True)
        # Silence would need both to be quiet, and the server says x as soon as it is told a.
        self.assertIs(is_story(both, [A, HUSH]), False)

    def test_rooms_begin_in_the_first_of_each(self):
        one = Machine(["a"], ["x"], ["q", "p"], [("p", A, "p"), ("q", A, "p"), ("q", X, "q")])
        other = Machine(["b"], ["y"], ["s", "r"], [("r", B, "r"), ("s", B, "r"), ("s", Y, "s")])
        both = joined(one, other)
        self.assertIs(is_story(both, [X, Y, X, A, Y, B, HUSH]), True)
        self.assertIs(is_story(both, [A, X]), False)

    def test_each_story_sign_by_sign(self):
        for seed, pair in some_pairs(90):
            one, other = Machine(*pair[0]), Machine(*pair[1])
            both = joined(one, other)
            level = {(): (first_face(both), first_face(one), first_face(other))}
            for length in range(3):
                longer = {}
                for story, faces in level.items():
                    for sign in signs_of(both):
                        behind = [face_behind(both, faces[0], sign)]
                        for machine, face in ((one, faces[1]), (other, faces[2])):
                            for own in heard_by(machine, [sign]):
                                face = face_behind(machine, face, own)
                            behind.append(face)
                        self.assertEqual(behind[0] != (), behind[1] != () and behind[2] != (), (pair, story, sign))
                        if behind[0] != ():
                            longer[story + (sign,)] = tuple(behind)
                level = longer

    def test_longer_stories_against_those_of_the_two(self):
        counts = {True: 0, False: 0}
        for seed, pair in some_pairs(150):
            one, other = Machine(*pair[0]), Machine(*pair[1])
            both = joined(one, other)
            chance = random.Random(seed)
            for turn in range(8):
                story = []
                for length in range(8):
                    onward = [sign for sign in signs_of(both) if is_story(both, story + [sign])]
                    story.append(chance.choice(onward if chance.random() < 0.9 else signs_of(both)))
                    told = is_story(both, story)
                    self.assertEqual(told, is_story(one, heard_by(one, story)) and is_story(other, heard_by(other, story)))
                    counts[told] += 1
                    if not told:
                        break
        self.assertGreater(min(counts.values()), 100)

    def test_it_is_a_taker_whose_faces_are_pairs_of_faces(self):
        for seed, pair in some_pairs(60):
            one, other = Machine(*pair[0]), Machine(*pair[1])
            both = joined(one, other)
            self.assertIsNone(need_taker(both, both))
            for sign in signs_of(both):
                own = [len(face_of(machine, heard_by(machine, [sign]))) for machine in (one, other)]
                self.assertEqual(len(face_of(both, [sign])), own[0] * own[1])

    def test_the_same_stories_either_way_round(self):
        for seed, pair in some_pairs(40):
            one, other = Machine(*pair[0]), Machine(*pair[1])
            both, turned = joined(one, other), joined(other, one)
            chance = random.Random(seed)
            for turn in range(20):
                story = [chance.choice(signs_of(both)) for length in range(3)]
                self.assertEqual(is_story(both, story), is_story(turned, story))


class Keeping(unittest.TestCase):
    def test_joined_takers_keep_to_joined_models(self):
        kept = 0
        for seed, pair in some_pairs(120):
            models = [Machine(*parts) for parts in pair]
            takers = []
            for number in range(2):
                near = [Machine(*near_parts(100 * seed + turn, pair[number])) for turn in range(6)]
                takers.append([taker for taker in near if keeps(models[number], taker)[0] == "keeps"][:2])
            for one in takers[0]:
                for other in takers[1]:
                    for order in ((0, 1), (1, 0)):
                        model = joined(*[models[number] for number in order])
                        taker = joined(*[(one, other)[number] for number in order])
                        try:
                            self.assertEqual(keeps(model, taker)[0], "keeps")
                            kept += 1
                        except TooWide:
                            pass
        self.assertGreater(kept, 200)

    def test_one_that_does_not_keep(self):
        wrong = Machine(["x"], ["y"], ["calm"], [("calm", ("ask", "x"), "calm")])
        self.assertEqual(keeps(printer(), wrong)[0], "fault")
        self.assertEqual(keeps(joined(server(), printer()), joined(server(), wrong)), ("fault", [A, X], HUSH))


class OwnThings(unittest.TestCase):
    def test_both_machines_tell_the_same_afterwards(self):
        one, other = server(), printer()
        both = joined(one, other)
        for part in lists_of(both):
            part.clear()
        both.asks().append("z")
        self.assertEqual(lists_of(one), lists_of(server()))
        self.assertEqual(lists_of(other), lists_of(printer()))
        self.assertEqual(lists_of(both), lists_of(joined(server(), printer())))

    def test_a_joined_one_can_be_joined(self):
        both = joined(server(), printer())
        third = Machine(["y"], ["z"], ["r", "s"], [("r", ("ask", "y"), "s"), ("s", ("say", "z"), "r"), ("s", ("ask", "y"), "s")])
        all_three = joined(both, third)
        self.assertEqual((all_three.asks(), all_three.says()), (["a"], ["x", "y", "z"]))
        self.assertIs(is_story(all_three, [A, X, Y, ("say", "z"), HUSH]), True)
        self.assertIs(is_story(all_three, [A, X, Y, HUSH]), False)


if __name__ == "__main__":
    unittest.main()
