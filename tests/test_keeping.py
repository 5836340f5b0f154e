"""Points 10 to 13: takers, keeping to a model, faults, and papers of keeping."""

import copy
import itertools
import random
import unittest

from mumtrial.errors import NoMatch, NoTaker, TooWide
from mumtrial.keeping import is_keeping, keeps, need_taker
from mumtrial.machines import Machine
from mumtrial.stories import face_of, is_story, may_come
from mumtrial.walks import is_walk, walk_of
from tests import plain
from tests.samples import kiosk, model_parts, random_parts, taker_parts, two_rounds, words_for

HUSH = ("hush",)
A = ("ask", "a")
B = ("ask", "b")
X = ("say", "x")
Y = ("say", "y")
STILL = ("still",)


def lamp(*doors):
    """A taker that hears a and says nothing, with more doors put in."""
    return Machine(["a"], ["x", "y"], ["off", "on"], [("off", A, "on"), ("on", A, "off")] + list(doors))


def not_taken(M, I):
    try:
        need_taker(M, I)
    except NoTaker as error:
        return (error.room, error.ask)
    return None


class Takers(unittest.TestCase):
    def test_none_is_told_of_a_taker(self):
        self.assertIsNone(need_taker(lamp(), lamp()))
        self.assertIsNone(need_taker(kiosk(), Machine(["coin", "card"], ["tea", "milk"], ["r"], [
            ("r", ("ask", "coin"), "r"), ("r", ("ask", "card"), "r")])))

    def test_by_several_still_doors(self):
        doors = [("p", STILL, "q"), ("q", STILL, "r"), ("r", STILL, "s"), ("s", A, "p"), ("r", B, "p"), ("s", B, "p")]
        machine = Machine(["a", "b"], ["x"], ["p", "q", "r", "s"], doors)
        self.assertIsNone(not_taken(machine, machine))
        machine = Machine(["a", "b"], ["x"], ["p", "q", "r", "s"], doors[:-1])
        self.assertEqual(not_taken(machine, machine), ("s", "b"))
        machine = Machine(["a", "b"], ["x"], ["p", "q", "r", "s"], doors[1:])
        self.assertEqual(not_taken(machine, machine), ("p", "a"))

    def test_each_ask_at_another_room(self):
        doors = [("p", STILL, "q"), ("p", STILL, "r"), ("q", A, "p"), ("r", B, "p"), ("q", B, "q"), ("r", A, "r")]
        machine = Machine(["a", "b"], ["x"], ["p", "q", "r"], doors)
        self.assertIsNone(not_taken(machine, machine))

    def test_say_doors_and_doors_of_the_ask_behind_it_do_not_help(self):
        machine = Machine(["a"], ["x"], ["p", "q"], [("p", X, "q"), ("q", A, "q")])
        self.assertEqual(not_taken(machine, machine), ("p", "a"))

    def test_a_still_door_that_leads_to_the_room_does_not_help(self):
        machine = Machine(["a"], ["x"], ["p", "q"], [("p", STILL, "q"), ("p", A, "p")])
        self.assertEqual(not_taken(machine, machine), ("q", "a"))

    def test_a_room_to_which_nothing_leads(self):
        machine = Machine(["a"], ["x"], ["p", "q"], [("p", A, "p")])
        self.assertEqual(not_taken(machine, machine), ("q", "a"))

    def test_the_first_room_and_of_it_the_first_ask(self):
        doors = [("q", ("ask", "c"), "q"), ("p", ("ask", "d"), "p"), ("r", ("ask", "c"), "r")]
        for rooms in itertools.permutations(["p", "q", "r"]):
            for asks in (["c", "d"], ["d", "c"]):
                machine = Machine(asks, ["x"], list(rooms), doors)
                missing = {"p": "c", "q": "d", "r": "d"}[rooms[0]]
                self.assertEqual(not_taken(machine, machine), (rooms[0], missing))
        machine = Machine(["c", "d"], ["x"], ["q", "p"], [("q", ("ask", "c"), "q"), ("q", ("ask", "d"), "q")])
        self.assertEqual(not_taken(machine, machine), ("p", "c"))

    def test_the_model_need_not_be_one(self):
        self.assertIsNone(need_taker(Machine(["a"], ["x", "y"], ["r"], []), lamp()))
        self.assertEqual(not_taken(lamp(), Machine(["a"], ["x", "y"], ["r"], [])), ("r", "a"))

    def test_against_the_plain_words(self):
        for seed in range(300):
            parts = random_parts(seed) if seed % 3 else taker_parts(seed, *words_for(seed))
            machine = Machine(*parts)
            self.assertEqual(not_taken(machine, machine), plain.Plain(*parts).first_not_taken(), parts)


class Refusals(unittest.TestCase):
    def refused(self, error, M, I):
        for ask in (lambda: need_taker(M, I), lambda: keeps(M, I), lambda: is_keeping(M, I, []),
                    lambda: is_keeping(M, I, [("r", ("r",))])):
            with self.assertRaises(error):
                ask()

    def test_other_words(self):
        taker = Machine(["a", "b"], ["x", "y"], ["r"], [("r", A, "r"), ("r", B, "r")])
        for asks, says in ((["b", "a"], ["x", "y"]), (["a", "b"], ["y", "x"]), (["a"], ["x", "y"]),
                           (["a", "b"], ["x"]), (["a", "b", "c"], ["x", "y"]), (["a", "b"], ["x", "y", "z"]),
                           (["a", "c"], ["x", "y"]), (["a", "b"], ["x", "z"]), (["x", "y"], ["a", "b"])):
            self.refused(NoMatch, Machine(asks, says, ["r"], []), taker)

    def test_the_order_of_the_words_is_told_of_them(self):
        one = Machine(["a", "b"], ["x"], ["r"], [("r", A, "r"), ("r", B, "r")])
        other = Machine(["b", "a"], ["x"], ["r"], [("r", A, "r"), ("r", B, "r")])
        self.refused(NoMatch, one, other)
        self.refused(NoMatch, other, one)

    def test_other_words_go_ahead_of_asks_that_are_not_taken(self):
        none = Machine(["a"], ["x"], ["r"], [])
        self.refused(NoTaker, none, none)
        self.refused(NoMatch, Machine(["a"], ["y"], ["r"], []), none)
        self.refused(NoMatch, Machine(["b"], ["x"], ["r"], []), none)

    def test_wide_ones(self):
        wide, narrow = two_rounds(16, 25), two_rounds(19, 21)
        for M, I in ((wide, narrow), (narrow, wide), (wide, wide)):
            self.assertIsNone(need_taker(M, I))
            with self.assertRaises(TooWide):
                keeps(M, I)
        self.assertEqual(keeps(narrow, narrow)[0], "keeps")
        small = Machine(["a"], ["x"], ["r"], [("r", A, "r")])
        self.assertEqual(keeps(narrow, small)[0], "keeps")
        self.assertEqual(keeps(small, narrow)[0], "keeps")

    def test_wide_ones_are_refused_where_a_fault_lies_open(self):
        loud = Machine(["a"], ["x"], ["r"], [("r", A, "r"), ("r", X, "r")])
        self.assertEqual(keeps(two_rounds(19, 21), loud), ("fault", [], X))
        with self.assertRaises(TooWide):
            keeps(two_rounds(16, 25), loud)
        with self.assertRaises(TooWide):
            keeps(loud, two_rounds(16, 25))

    def test_other_refusals_go_ahead_of_wide_ones(self):
        wide = two_rounds(16, 25)
        other = Machine(["b"], ["x"], ["r"], [])
        self.refused(NoMatch, wide, other)
        self.refused(NoMatch, other, wide)
        self.refused(NoTaker, wide, Machine(["a"], ["x"], ["r"], []))
        no_taker = Machine(["a"], ["x"], wide.rooms() + ["more"], wide.doors())
        with self.assertRaises(NoTaker) as caught:
            keeps(wide, no_taker)
        self.assertEqual((caught.exception.room, caught.exception.ask), ("more", "a"))

    def test_papers_are_looked_over_of_wide_ones_too(self):
        wide = two_rounds(16, 25)
        quiet = Machine(["a"], ["x"], ["r"], [("r", A, "r")])
        self.assertIs(is_keeping(quiet, wide, [(room, ("r",)) for room in wide.rooms()]), True)
        self.assertIs(is_keeping(wide, quiet, [("r", ("start",))]), False)

    def test_a_refusal_changes_nothing(self):
        none = Machine(["a"], ["x", "y"], ["r"], [])
        self.refused(NoTaker, lamp(), none)
        self.refused(NoTaker, lamp(), none)
        self.assertEqual(keeps(none, lamp())[0], "keeps")


class KeepingToAModel(unittest.TestCase):
    def test_a_machine_held_against_itself(self):
        for seed in range(120):
            machine = Machine(*taker_parts(seed, *words_for(seed)))
            told = keeps(machine, machine)
            self.assertEqual(told[0], "keeps")
            self.assertIs(is_keeping(machine, machine, told[1]), True)

    def test_one_that_says_less(self):
        model = lamp(("on", X, "on"), ("on", Y, "off"))
        self.assertEqual(keeps(model, lamp(("on", X, "on")))[0], "keeps")
        self.assertEqual(keeps(model, lamp(("on", Y, "off")))[0], "keeps")

    def test_silence_must_be_allowed_too(self):
        self.assertEqual(keeps(lamp(("on", X, "on")), lamp()), ("fault", [A], HUSH))

    def test_a_story_of_the_model_that_the_machine_has_not_is_no_fault(self):
        model = Machine(["a"], ["x", "y"], ["p", "q", "r", "s"], [
            ("p", A, "q"), ("q", X, "r"), ("q", Y, "s"), ("s", X, "s"), ("r", A, "r")])
        machine = Machine(["a"], ["x", "y"], ["p", "q", "r"], [
            ("p", A, "q"), ("q", X, "r"), ("q", A, "q"), ("r", A, "r")])
        self.assertFalse(is_story(machine, [A, Y]))
        self.assertEqual(keeps(model, machine)[0], "keeps")

    def test_behind_an_ask_that_the_model_does_not_foresee_all_is_free(self):
        model = Machine(["a", "b"], ["x"], ["r"], [("r", A, "r")])
        machine = Machine(["a", "b"], ["x"], ["r", "s"], [
            ("r", A, "r"), ("r", B, "s"), ("s", X, "s"), ("s", A, "r"), ("s", B, "s")])
        self.assertEqual(keeps(model, machine)[0], "keeps")

    def test_silence_that_was_heard_tells_the_models_rooms_apart(self):
        # Behind silence the model can be in calm alone, where x doesn't come behind a.
        model = Machine(["a"], ["x"], ["p", "calm", "loud"], [
            ("p", STILL, "calm"), ("p", STILL, "loud"), ("loud", X, "p"), ("loud", A, "loud"), ("calm", A, "calm")])
        machine = Machine(["a"], ["x"], ["p", "q"], [("p", A, "q"), ("q", X, "p"), ("q", A, "q")])
        self.assertEqual(keeps(model, machine), ("fault", [HUSH, A], X))


class Faults(unittest.TestCase):
    def test_by_a_say(self):
        self.assertEqual(keeps(lamp(), lamp(("on", Y, "off"))), ("fault", [A], Y))

    def test_by_hush(self):
        model = lamp(("off", X, "off"), ("on", X, "on"))
        self.assertEqual(keeps(model, lamp(("off", X, "off"))), ("fault", [A], HUSH))

    def test_behind_no_sign(self):
        self.assertEqual(keeps(lamp(), lamp(("off", X, "off"))), ("fault", [], X))
        self.assertEqual(keeps(lamp(("off", X, "off")), lamp()), ("fault", [], HUSH))

    def test_the_sign_that_is_first_of_one_story(self):
        self.assertEqual(keeps(lamp(), lamp(("on", Y, "off"), ("on", X, "off"))), ("fault", [A], X))
        model = lamp(("on", X, "on"), ("off", X, "off"))
        machine = lamp(("off", Y, "off"), ("off", X, "off"), ("off", STILL, "on"), ("on", A, "on"))
        self.assertEqual(keeps(model, machine), ("fault", [], Y))

    def test_the_shorter_one_of_several(self):
        # Behind [a, a] a fault by x, behind [b] one by y: the shorter one, though b stands behind a.
        model = Machine(["a", "b"], ["x", "y"], ["r"], [("r", A, "r"), ("r", B, "r")])
        doors = [("p", A, "q"), ("q", A, "s"), ("s", A, "s"), ("p", B, "t"), ("t", A, "t"), ("t", B, "t"), ("q", B, "q"),
                 ("s", B, "s"), ("s", X, "s")]
        rooms = ["p", "q", "s", "t"]
        self.assertEqual(keeps(model, Machine(["a", "b"], ["x", "y"], rooms, doors + [("t", Y, "t")])), ("fault", [B], Y))
        self.assertEqual(keeps(model, Machine(["a", "b"], ["x", "y"], rooms, doors)), ("fault", [A, A], X))

    def test_the_first_one_of_one_length(self):
        rooms = ["p", "q", "r"]
        doors = [("p", A, "q"), ("p", B, "r"), ("q", A, "q"), ("q", B, "q"), ("r", A, "r"), ("r", B, "r"),
                 ("q", Y, "q"), ("r", X, "r")]
        for turned in itertools.islice(itertools.permutations(doors), 0, 40320, 371):
            for asks in (["a", "b"], ["b", "a"]):
                model = Machine(asks, ["x", "y"], ["r"], [("r", A, "r"), ("r", B, "r")])
                machine = Machine(asks, ["x", "y"], rooms, list(turned))
                least = {"a": ("fault", [A], Y), "b": ("fault", [B], X)}[asks[0]]
                self.assertEqual(keeps(model, machine), least)

    def test_asks_ahead_of_says(self):
        model = Machine(["a"], ["x", "y"], ["r", "q"], [("r", A, "r"), ("r", X, "r"), ("r", STILL, "q"), ("q", A, "r")])
        rooms = ["m", "calm", "loud"]
        doors = [("m", STILL, "calm"), ("loud", A, "loud"), ("loud", Y, "loud")]
        behind_all = doors + [("calm", A, "loud"), ("m", X, "loud"), ("m", A, "loud")]
        self.assertEqual(keeps(model, Machine(["a"], ["x", "y"], rooms, behind_all)), ("fault", [A], Y))
        behind_say = doors + [("calm", A, "calm"), ("m", X, "loud"), ("m", A, "calm")]
        self.assertEqual(keeps(model, Machine(["a"], ["x", "y"], rooms, behind_say)), ("fault", [X], Y))

    def test_behind_hush(self):
        model = Machine(["a"], ["x"], ["p", "q", "r"], [("p", STILL, "q"), ("p", A, "r"), ("q", A, "q"), ("r", X, "r"),
                                                        ("r", A, "r"), ("r", STILL, "q")])
        machine = Machine(["a"], ["x"], ["p", "r"], [("p", A, "r"), ("r", X, "r"), ("r", A, "r")])
        self.assertEqual(keeps(model, machine), ("fault", [HUSH, A], X))

    def test_against_all_short_stories(self):
        kinds = {}
        for seed in range(700):
            asks, says = words_for(seed)
            model_lists, machine_lists = model_parts(2 * seed, asks, says), taker_parts(7 * seed + 5, asks, says)
            told = keeps(Machine(*model_lists), Machine(*machine_lists))
            longest = len(told[1]) if told[0] == "fault" else 2
            least = plain.least_fault(plain.Plain(*model_lists), plain.Plain(*machine_lists), longest)
            self.assertEqual(told[1:] if told[0] == "fault" else None, least, (model_lists, machine_lists))
            kinds[told[0]] = kinds.get(told[0], 0) + 1
        self.assertGreater(min(kinds.values()), 100)

    def test_of_models_bent_by_one_door(self):
        depths = set()
        for seed in range(400):
            asks, says = words_for(seed)
            model_lists = taker_parts(seed, asks, says, 6)
            chance = random.Random(seed)
            doors = list(model_lists[3])
            number = chance.randrange(len(doors))
            doors[number] = (doors[number][0], doors[number][1], chance.choice(model_lists[2]))
            machine_lists = model_lists[:3] + (list(dict.fromkeys(doors)),)
            if doors[number][1] == STILL:
                continue
            told = keeps(Machine(*model_lists), Machine(*machine_lists))
            if told[0] == "fault" and len(told[1]) <= 4:
                models, mine = plain.Plain(*model_lists), plain.Plain(*machine_lists)
                self.assertEqual(told[1:], plain.least_fault(models, mine, len(told[1])))
                depths.add(len(told[1]))
        self.assertLessEqual({1, 2, 3}, depths)

    def test_a_far_one(self):
        rooms = ["r" + letter for letter in "abcdefghijklmnopqrstuvwxyz"]
        doors = [(start, A, goal) for start, goal in zip(rooms, rooms[1:] + rooms[-1:])]
        model = Machine(["a"], ["x"], rooms, doors)
        machine = Machine(["a"], ["x"], rooms, doors + [(rooms[-1], X, rooms[0])])
        self.assertEqual(keeps(model, machine), ("fault", [A] * 25, X))


class TheWhole(unittest.TestCase):
    """Point 3: shown by a paper, or told by a least fault with a walk; never both."""

    def test_either_a_paper_or_a_fault_with_a_walk(self):
        for seed in range(400):
            asks, says = words_for(seed)
            lists = (model_parts(2 * seed, asks, says), taker_parts(3 * seed + 1, asks, says))
            model, machine = Machine(*lists[0]), Machine(*lists[1])
            told = keeps(model, machine)
            self.assertIs(type(told), tuple)
            if told[0] == "keeps":
                self.assertEqual((len(told), type(told[1])), (2, list))
                self.assertIs(is_keeping(model, machine, told[1]), True)
                self.assertTrue(plain.is_paper(plain.Plain(*lists[0]), plain.Plain(*lists[1]), told[1]))
            else:
                kind, story, sign = told
                self.assertEqual((kind, type(story), type(sign)), ("fault", list, tuple))
                self.assertTrue(is_story(model, story))
                self.assertIn(sign, may_come(machine, face_of(machine, story)))
                self.assertNotIn(sign, may_come(model, face_of(model, story)))
                walk = walk_of(machine, story + [sign])
                self.assertTrue(is_walk(machine, story + [sign], walk))

    def test_where_there_is_a_fault_no_paper_of_the_models_faces_is_right(self):
        model, machine = lamp(("on", X, "on")), lamp()
        rows = [(room, face) for room in ("off", "on") for face in (("off",), ("on",), ("off", "on"))]
        for count in range(len(rows) + 1):
            for paper in itertools.combinations(rows, count):
                self.assertIs(is_keeping(model, machine, list(paper)), False)


class Papers(unittest.TestCase):
    # Behind hush the model's face ("p", "q") comes down to ("q",).
    model = Machine(["a"], ["x"], ["p", "q"], [("p", STILL, "q"), ("q", A, "p"), ("p", X, "q")])
    machine = Machine(["a"], ["x"], ["m", "n"], [("m", STILL, "n"), ("n", A, "m"), ("m", X, "n")])
    right = [("m", ("p", "q")), ("n", ("p", "q")), ("n", ("q",))]

    def judged(self, paper):
        told = is_keeping(self.model, self.machine, paper)
        self.assertIs(type(told), bool)
        return told

    def test_the_told_paper(self):
        kind, paper = keeps(self.model, self.machine)
        self.assertEqual((kind, sorted(paper)), ("keeps", self.right))
        self.assertIs(self.judged(paper), True)
        for row in paper:
            self.assertEqual([type(row), type(row[0]), type(row[1])], [tuple, str, tuple])

    def test_without_rows(self):
        self.assertIs(self.judged([]), False)

    def test_a_row_left_out(self):
        for number in range(3):
            self.assertIs(self.judged(self.right[:number] + self.right[number + 1:]), False)

    def test_a_row_put_in(self):
        self.assertIs(self.judged(self.right + [("n", ("p",))]), False)
        self.assertIs(self.judged(self.right + [("m", ("q",))]), False)
        quiet = Machine(["a"], ["x"], ["p", "q"], [("p", A, "p"), ("q", A, "q")])
        self.assertIs(is_keeping(quiet, quiet, [("p", ("p",))]), True)
        self.assertIs(is_keeping(quiet, quiet, [("p", ("p",)), ("q", ("p", "q"))]), True)
        self.assertIs(is_keeping(quiet, quiet, [("q", ("p", "q"))]), False)

    def test_rows_twice_and_in_another_order(self):
        for rows in itertools.permutations(self.right):
            self.assertIs(self.judged(list(rows)), True)
            self.assertIs(self.judged(list(rows) + [rows[1]]), True)
            self.assertIs(self.judged([rows[0]] + list(rows)), True)

    def test_a_face_out_of_order_or_with_a_room_twice(self):
        for face in (("q", "p"), ("p", "q", "q"), ("p", "p", "q"), ("q", "q"), ("p", "q", "p"), ("p", "p")):
            self.assertIs(self.judged(self.right + [("n", face)]), False)
            self.assertIs(self.judged([("m", face)] + self.right[1:]), False)

    def test_an_empty_face(self):
        self.assertIs(self.judged(self.right + [("n", ())]), False)
        self.assertIs(self.judged([("m", ()), ("n", ())]), False)

    def test_an_empty_face_does_not_make_up_for_a_say_or_for_silence(self):
        silent = Machine(["a"], ["x"], ["r"], [("r", A, "r")])
        loud = Machine(["a"], ["x"], ["r"], [("r", A, "r"), ("r", X, "r")])
        for model, machine in ((silent, loud), (loud, silent)):
            for paper in ([("r", ("r",))], [("r", ("r",)), ("r", ())], [("r", ())]):
                self.assertIs(is_keeping(model, machine, paper), False)

    def test_rooms_that_are_not_the_models_or_not_the_machines(self):
        for row in (("n", ("r",)), ("n", ("p", "r")), ("n", ("m",)), ("n", ("",)), ("p", ("q",)), ("o", ("q",)), ("", ("q",))):
            self.assertIs(self.judged(self.right + [row]), False)
            self.assertIs(self.judged([row] + self.right), False)

    def test_what_each_door_asks_for(self):
        model = Machine(["a", "b"], ["x"], ["p", "q", "r", "s"], [
            ("p", A, "q"), ("q", X, "r"), ("r", STILL, "s"), ("s", A, "s")])
        machine = Machine(["a", "b"], ["x"], ["m", "n", "o"], [
            ("m", A, "n"), ("n", X, "o"), ("n", A, "n"), ("o", A, "o"), ("o", B, "n"), ("m", B, "o"), ("n", B, "n")])
        paper = [("m", ("p",)), ("n", ("q",)), ("o", ("r", "s")), ("o", ("s",))]
        self.assertIs(is_keeping(model, machine, paper), True)
        for number in range(4):
            self.assertIs(is_keeping(model, machine, paper[:number] + paper[number + 1:]), False)

    def test_another_paper_than_the_told_one_may_be_right(self):
        quiet = Machine(["a"], ["x"], ["p", "q"], [("p", A, "p"), ("q", A, "q")])
        self.assertEqual(keeps(quiet, quiet), ("keeps", [("p", ("p",))]))
        self.assertIs(is_keeping(quiet, quiet, [("q", ("q",)), ("p", ("q",)), ("p", ("p",))]), True)

    def test_bent_papers_against_the_plain_words(self):
        counts = {True: 0, False: 0}
        for seed in range(300):
            asks, says = words_for(seed)
            model_lists, machine_lists = model_parts(seed, asks, says, 3), taker_parts(5 * seed, asks, says, 3)
            model, machine = Machine(*model_lists), Machine(*machine_lists)
            told = keeps(model, machine)
            chance = random.Random(seed)
            faces = [face for n in range(4) for face in itertools.combinations(model_lists[2], n)]
            rows = [(room, face) for room in machine_lists[2] for face in faces]
            paper = told[1] if told[0] == "keeps" else [row for row in rows if row[1]]
            for turn in range(12):
                bent = list(paper)
                if bent and chance.random() < 0.5:
                    bent.pop(chance.randrange(len(bent)))
                for more in range(chance.randrange(3)):
                    bent.append(chance.choice(rows))
                chance.shuffle(bent)
                so = plain.is_paper(plain.Plain(*model_lists), plain.Plain(*machine_lists), bent)
                self.assertIs(is_keeping(model, machine, bent), so, (model_lists, machine_lists, bent))
                self.assertFalse(so and told[0] == "fault")
                counts[so] += 1
        self.assertGreater(min(counts.values()), 100)


class OwnThings(unittest.TestCase):
    def test_nothing_handed_in_is_changed(self):
        paper = [("m", ("p", "q")), ("n", ("p", "q")), ("n", ("q",)), ("m", ("p", "q"))]
        twin = copy.deepcopy(paper)
        is_keeping(Papers.model, Papers.machine, paper)
        self.assertEqual(paper, twin)

    def test_a_changed_paper_changes_nothing_told_later(self):
        for turn in range(3):
            kind, paper = keeps(Papers.model, Papers.machine)
            self.assertEqual(sorted(paper), Papers.right)
            paper.clear()

    def test_a_changed_story_changes_nothing_told_later(self):
        model, machine = lamp(), lamp(("on", Y, "off"))
        for turn in range(3):
            kind, story, sign = keeps(model, machine)
            self.assertEqual((story, sign), ([A], Y))
            story.append(X)

    def test_a_paper_changed_behind_the_call(self):
        paper = list(Papers.right)
        self.assertIs(is_keeping(Papers.model, Papers.machine, paper), True)
        paper.pop()
        self.assertIs(is_keeping(Papers.model, Papers.machine, paper), False)
        paper.append(("n", ("q",)))
        self.assertIs(is_keeping(Papers.model, Papers.machine, paper), True)

    def test_two_models_by_turns(self):
        first, other, machine = lamp(), lamp(("on", Y, "off")), lamp(("on", Y, "off"))
        for turn in range(3):
            self.assertEqual(keeps(first, machine)[0], "fault")
            self.assertEqual(keeps(other, machine)[0], "keeps")


if __name__ == "__main__":
    unittest.main()
