"""Points 1, 2 and 3: what is promised over the whole program."""

import copy
import random
import unittest

from mumtrial.alike import parted
from mumtrial.blamers import first_blamer, how_many_blame
from mumtrial.charges import charge_behind, first_charge, hushed, is_hopeless, met, open_to
from mumtrial.errors import NoJoin, NoMachine, TooWide, TrialError
from mumtrial.faces import faces_of, how_many
from mumtrial.fair import unfair
from mumtrial.hidden import hidden
from mumtrial.joined import joined
from mumtrial.keeping import is_keeping, keeps, need_taker
from mumtrial.machines import Machine
from mumtrial.made import how_many_made, made_by, number_of
from mumtrial.rights import Rights
from mumtrial.several import fewest, most_blamed
from mumtrial.sittings import Sitting
from mumtrial.stories import face_of, first_face, foreseen, is_story, may_come
from mumtrial.texts import read, shown
from mumtrial.trials import blames, leaves
from mumtrial.walks import is_walk, walk_of
from mumtrial.widest import hopeless_paper, is_hopeless_paper, widest
from tests import plain
from tests.samples import (bent_hopeless_parts, chain, hopeless_parts, lists_of, model_parts, names, near_parts,
                           taker_parts, words_for)

HUSH = ("hush",)
STILL = ("still",)


def small_models(count):
    for seed in range(count):
        if seed % 3 == 0:
            yield seed, bent_hopeless_parts(seed)
        elif seed % 3 == 1:
            yield seed, model_parts(seed, *words_for(seed), 3)
        else:
            yield seed, taker_parts(seed, *words_for(seed), 3)


def pairs(count):
    """Small models with takers near them, both as lists."""
    for seed, parts in small_models(count):
        for turn in range(3):
            yield 10 * seed + turn, parts, near_parts(10 * seed + turn, parts)


class KeepsOrFault(unittest.TestCase):
    def test_never_both_and_never_none(self):
        counts = {"keeps": 0, "fault": 0}
        for seed, parts, near in pairs(100):
            model, taker = Machine(*parts), Machine(*near)
            answer = keeps(model, taker)
            counts[answer[0]] += 1
            if answer[0] == "keeps":
                self.assertIs(is_keeping(model, taker, answer[1]), True)
                self.assertIs(plain.is_paper(plain.Plain(*parts), plain.Plain(*near), answer[1]), True)
                self.assertIsNone(plain.least_fault(plain.Plain(*parts), plain.Plain(*near), 3))
                self.keeps_by_all_others(model, taker)
            else:
                story, sign = answer[1:]
                if len(story) <= 3:
                    self.assertEqual(plain.least_fault(plain.Plain(*parts), plain.Plain(*near), 3), (story, sign))
                walk = walk_of(taker, story + [sign])
                self.assertIs(is_walk(taker, story + [sign], walk), True)
                self.assertIs(plain.Plain(*near).is_walk(story + [sign], walk), True)
                self.faults_by_all_others(model, taker, story, sign)
        self.assertGreater(min(counts.values()), 80)

    def keeps_by_all_others(self, model, taker):
        right = widest(model)
        self.assertEqual(keeps(right, taker)[0], "keeps")
        self.assertIsNone(hopeless_paper(model))
        self.assertEqual([how_many_blame(model, depth, taker) for depth in range(5)], [0] * 5)
        self.assertEqual(most_blamed(model, 4, [taker]), (0, 0))
        for number in (0, how_many_made(model, 3) - 1, how_many_made(model, 3) // 3):
            self.assertIsNone(blames(model, made_by(model, 3, number), taker))

    def faults_by_all_others(self, model, taker, story, sign):
        right = widest(model)
        if right is not None:
            self.assertEqual(keeps(right, taker)[0], "fault")
            sitting = Sitting(model)
            for one in story + [sign]:
                sitting.hear(one)
            self.assertIsNotNone(sitting.blamed_at())
        else:
            self.assertIs(is_hopeless_paper(model, hopeless_paper(model)), True)
        for depth in range(5):
            first = first_blamer(model, depth, taker)
            self.assertEqual(first is not None, depth >= len(story) + 1)
            self.assertEqual(how_many_blame(model, depth, taker) > 0, first is not None)
            if first is not None:
                trial = made_by(model, depth, first)
                self.assertIs(plain.run_end(plain.Plain(*lists_of(taker)), trial, blames(model, trial, taker)), "blame")
                self.assertIsNone(unfair(model, trial))
                self.assertEqual(number_of(model, depth, trial), first)

    def test_no_paper_is_right_where_there_is_a_fault(self):
        for seed, parts, near in pairs(60):
            model, taker = Machine(*parts), Machine(*near)
            if keeps(model, taker)[0] == "fault":
                paper = [(room, face) for room in taker.rooms() for face, story in faces_of(model)]
                self.assertIs(is_keeping(model, taker, paper), False)

    def test_widest_or_a_paper(self):
        counts = {True: 0, False: 0}
        for seed, parts in small_models(180):
            model = Machine(*parts)
            none = widest(model) is None
            self.assertEqual(hopeless_paper(model) is None, not none)
            self.assertEqual(is_hopeless(model, first_charge(model)), none)
            counts[none] += 1
        self.assertGreater(min(counts.values()), 10)


def all_told(model, taker):
    """What each call tells of a model and a taker of its words, or the error with which it is refused, as one list."""
    signs = [("ask", a) for a in model.asks()] + [("say", w) for w in model.says()] + [HUSH]
    stories = [[]] + [[one] for one in signs] + [[one, other] for one in signs for other in signs]
    trial = ("tell", model.asks()[0], ("blame",), tuple((say, ("end",)) for say in model.says()))
    calls = [
        lambda: need_taker(model, taker), lambda: faces_of(model), lambda: how_many(model, 5), lambda: keeps(model, taker),
        lambda: [(face_of(model, story), is_story(model, story), walk_of(taker, story)) for story in stories],
        lambda: (may_come(model, first_face(model)), foreseen(model, first_face(model))),
        lambda: leaves(model, trial), lambda: blames(model, trial, taker), lambda: unfair(model, trial),
        lambda: [how_many_made(model, depth) for depth in range(5)], lambda: made_by(model, 2, how_many_made(model, 2) - 1),
        lambda: number_of(model, 2, made_by(model, 2, how_many_made(model, 2) // 2)), lambda: made_by(model, 5, 0),
        lambda: [(how_many_blame(model, depth, taker), first_blamer(model, depth, taker)) for depth in range(4)],
        lambda: (hushed(model, first_charge(model)), open_to(model, first_charge(model))),
        lambda: [charge_behind(model, first_charge(model), sign) for sign in signs],
        lambda: sorted(len(charge) for charge in met(model)), lambda: is_hopeless(model, first_charge(model)),
        lambda: [Rights(model).has_story(story) for story in stories], lambda: hopeless_paper(model),
        lambda: parted(model, taker), lambda: most_blamed(model, 2, [taker, model]),
        lambda: (most_blamed(model, 3, [taker, taker]), fewest(model, 3, [taker])), lambda: shown(model),
        lambda: hidden(model, model.says()[:1]).doors(), lambda: hidden(model, ["nosuch"]),
        lambda: [sat(model, story) for story in stories],
    ]
    return [answer_of(call) for call in calls]


def widest_told(model):
    right = widest(model)
    return None if right is None else lists_of(right)


def sat(model, story):
    sitting = Sitting(model)
    for sign in story:
        sitting.hear(sign)
    return (sitting.story(), sitting.blamed_at(), sitting.next_right())


def answer_of(call):
    try:
        return copy.deepcopy(call())
    except TrialError as error:
        return (type(error).__name__, sorted((name, value) for name, value in vars(error).items()))


def renamed(thing, new_names, rooms):
    """The same with other names within it, charges, lists of tuples of these rooms, sorted anew."""
    if isinstance(thing, str):
        rows = [[new_names.get(word, word) for word in row.split(" ")] for row in thing.split("\n")]
        return "\n".join(" ".join(row) for row in rows)
    if isinstance(thing, tuple):
        return tuple(renamed(one, new_names, rooms) for one in thing)
    if isinstance(thing, list):
        told = [renamed(one, new_names, rooms) for one in thing]
        return sorted(told) if told != [] and all(is_face(one, rooms) for one in told) else told
    return thing


def is_face(thing, rooms):
    return isinstance(thing, tuple) and thing != () and all(isinstance(one, str) and one in rooms for one in thing)


class OtherNames(unittest.TestCase):
    def test_the_program_tells_the_same(self):
        words = {"a": "ask", "b": "tell", "x": "say", "y": "hush", "z": "end"}
        for seed, parts, near in pairs(36):
            chance = random.Random(seed)
            # The sorting of new names is another one than that of the old.
            rooms = sorted(set(parts[2] + near[2]))
            fresh = dict(zip(rooms, chance.sample(["n" + name for name in names(100)], len(rooms))))
            new_names = {**words, **fresh}
            turned = [renamed_lists(lists, new_names) for lists in (parts, near)]
            told = all_told(Machine(*parts), Machine(*near))
            again = all_told(*[Machine(*lists) for lists in turned])
            self.assertEqual(len(told), len(again))
            for number in range(len(told)):
                self.assertEqual(renamed(told[number], new_names, fresh.values()), again[number], (seed, number))
            right = widest_told(Machine(*parts))
            self.assertEqual(renamed(right, words, []), widest_told(Machine(*turned[0])))


def renamed_lists(lists, new_names):
    asks, says, rooms, doors = lists
    named = [[new_names[name] for name in part] for part in (asks, says, rooms)]
    turned = [(new_names[start], (sign[0],) + tuple(new_names[word] for word in sign[1:]), new_names[goal])
              for start, sign, goal in doors]
    return (*named, turned)


class Machines(unittest.TestCase):
    """What joined, hidden and widest tell, and read, are machines for all other calls."""

    def looked_over(self, machine):
        self.assertIsInstance(machine, Machine)
        lists = lists_of(machine)
        self.assertEqual(lists_of(Machine(*lists)), lists)
        self.assertEqual(lists_of(read(shown(machine))), lists)
        taker = Machine(*near_parts(len(lists[3]), lists))
        self.assertEqual(all_told(machine, taker), all_told(Machine(*lists), taker))
        self.assertEqual(all_told(taker, machine), all_told(taker, Machine(*lists)))
        self.assertEqual([machine.is_quiet(room) for room in lists[2]], [plain.Plain(*lists).quiet(room) for room in lists[2]])
        self.assertEqual([machine.doors_from(room) for room in lists[2]], [
            [door for door in lists[3] if door[0] == room] for room in lists[2]])

    def test_of_widest(self):
        for seed, parts in small_models(15):
            right = widest(Machine(*parts))
            if right is not None:
                self.looked_over(right)
                self.assertIsNone(parted(Machine(*parts), right))

    def test_of_hidden(self):
        looked = 0
        for seed in range(12):
            try:
                machine = hidden(Machine(*taker_parts(seed, ["a"], ["x", "y", "z"], 3)), ["y"])
            except NoMachine:
                continue
            looked += 1
            self.looked_over(machine)
        self.assertGreater(looked, 3)

    def test_of_joined(self):
        for seed in range(4):
            machine = joined(Machine(*taker_parts(seed, ["a"], ["x"], 2)), Machine(*taker_parts(seed + 5, ["x", "b"], ["y"], 2)))
            self.looked_over(machine)

    def test_of_all_three(self):
        looked = 0
        for seed in range(25):
            parts = [taker_parts(seed, ["a"], ["x"], 2), taker_parts(seed + 5, ["x", "b"], ["y"], 2)]
            try:
                machine = hidden(joined(*[Machine(*one) for one in parts]), ["x"])
                right = widest(machine)
            except (NoMachine, TooWide):
                continue
            looked += 1
            self.assertEqual(keeps(right, machine)[0], "keeps")
            self.assertEqual(keeps(machine, right)[0], "keeps")
            self.assertIsNone(parted(machine, right))
            self.assertEqual(lists_of(read(shown(right))), lists_of(right))
        self.assertGreater(looked, 5)


class ByTurns(unittest.TestCase):
    def test_calls_of_several_machines_some_of_them_refused(self):
        lists = [(parts, near) for seed, parts, near in pairs(9)][::3]
        lists.append((hopeless_parts(), taker_parts(1, ["a", "b"], ["x", "y"])))
        lists.append((lists_of(chain(61)), lists_of(chain(3))))
        lists.append((taker_parts(2, ["a"], ["x"]), model_parts(4, ["a"], ["x"])))
        alone = [all_told(Machine(*one), Machine(*other)) for one, other in lists]
        machines = [(Machine(*one), Machine(*other)) for one, other in lists]
        order = [number for number in range(len(machines)) for turn in range(2)]
        random.Random(7).shuffle(order)
        for number in order:
            self.assertEqual(all_told(*machines[number]), alone[number])
            for other in (joined_or_refused, widest_or_refused):
                other(machines[number])
        self.assertEqual([(lists_of(one), lists_of(other)) for one, other in machines], [
            (tuple(one), tuple(other)) for one, other in lists])
        refused = [answer for answers in alone for answer in answers if isinstance(answer, tuple) and answer[:1] in (
            ("NoTaker",), ("TooWide",), ("NoRight",), ("NoDepth",), ("NoWord",))]
        self.assertGreater(len(refused), 10)

    def test_sittings_between_other_calls(self):
        model = Machine(*model_parts(4, ["a"], ["x"], 3))
        story = [("ask", "a"), HUSH, ("say", "x")]
        alone = [sat(model, story[:length]) for length in range(4)]
        sitting = Sitting(model)
        for length in range(4):
            self.assertEqual((sitting.story(), sitting.blamed_at(), sitting.next_right()), alone[length])
            all_told(model, Machine(*near_parts(length, lists_of(model))))
            self.assertRaises(TrialError, sitting.hear, ("ask", "x"))
            self.assertRaises(TooWide, Sitting, chain(61))
            if length < 3:
                sitting.hear(story[length])


def joined_or_refused(pair):
    try:
        joined(*pair)
    except NoJoin:
        pass


def widest_or_refused(pair):
    try:
        widest(pair[0])
    except TooWide:
        pass


if __name__ == "__main__":
    unittest.main()
