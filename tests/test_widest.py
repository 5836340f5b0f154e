"""Points 21 to 23 and 3: the widest right machine, hopeless papers, models that are too wide."""

import copy
import itertools
import random
import unittest

from mumtrial.charges import charge_behind, first_charge, hushed, is_hopeless, met, open_to
from mumtrial.errors import NoTaker, TooWide
from mumtrial.keeping import is_keeping, keeps, need_taker
from mumtrial.machines import Machine
from mumtrial.rights import Rights
from mumtrial.stories import is_story
from mumtrial.widest import hopeless_paper, is_hopeless_paper, widest
from tests import plain
from tests.samples import (bent_hopeless_parts, chain, hopeless_paper as short_paper, hopeless_parts, kiosk, lists_of,
                           listened, model_parts, near_parts, taker_parts, two_silences, words_for)

HUSH = ("hush",)
STILL = ("still",)
A = ("ask", "a")
B = ("ask", "b")
X = ("say", "x")
Y = ("say", "y")
NONE = Machine(*hopeless_parts())


def models(count):
    for seed in range(count):
        for parts in (bent_hopeless_parts(seed), model_parts(seed, *words_for(seed)), taker_parts(seed, *words_for(seed))):
            yield seed, parts


def hopeless_models(count):
    for seed in range(count):
        parts = bent_hopeless_parts(seed)
        if plain.hopeful_charges(plain.Plain(*parts)).isdisjoint([frozenset([plain.Plain(*parts).first()])]):
            yield seed, parts


def all_small_takers():
    """All takers of one ask, one say and two rooms, still doors one way at most."""
    ways = [[], ["p"], ["q"], ["p", "q"]]
    for goals in itertools.product(ways, repeat=4):
        for still in ([], [("p", STILL, "q")], [("q", STILL, "p")]):
            doors = []
            for start, sign, rooms in zip("ppqq", (A, X, A, X), goals):
                doors += [(start, sign, goal) for goal in rooms]
            machine = Machine(["a"], ["x"], ["p", "q"], doors + still)
            try:
                need_taker(machine, machine)
            except NoTaker:
                continue
            yield machine


class Widest(unittest.TestCase):
    def test_none_where_no_machine_keeps_to_the_model(self):
        self.assertIsNone(widest(NONE))
        count = 0
        for seed, parts in hopeless_models(60):
            self.assertIsNone(widest(Machine(*parts)))
            count += 1
        self.assertGreater(count, 10)

    def test_else_a_machine_of_the_models_words_that_takes_all_asks_and_keeps(self):
        count = 0
        for seed, parts in models(70):
            model = Machine(*parts)
            right = widest(model)
            self.assertEqual(right is None, is_hopeless(model, first_charge(model)))
            if right is None:
                continue
            count += 1
            self.assertIsInstance(right, Machine)
            self.assertEqual((right.asks(), right.says()), (parts[0], parts[1]))
            self.assertIsNone(plain.Plain(*lists_of(right)).first_not_taken())
            kind, paper = keeps(model, right)
            self.assertEqual(kind, "keeps")
            self.assertIs(is_keeping(model, right, paper), True)
            self.assertIsNone(plain.least_fault(plain.Plain(*parts), plain.Plain(*lists_of(right)), 3))
        self.assertGreater(count, 130)

    def test_words_in_the_models_order(self):
        for asks, says in itertools.product((["a", "b"], ["b", "a"]), (["x", "y"], ["y", "x"])):
            right = widest(Machine(asks, says, ["p"], [("p", A, "p")]))
            self.assertEqual((right.asks(), right.says()), (asks, says))

    def test_takers_near_the_model_keep_to_both_or_to_none(self):
        counts = {True: 0, False: 0}
        for seed, parts in models(60):
            model = Machine(*parts)
            right = widest(model)
            for turn in range(4):
                taker = Machine(*near_parts(10 * seed + turn, parts))
                kept = keeps(model, taker)[0] == "keeps"
                self.assertEqual(kept, right is not None and keeps(right, taker)[0] == "keeps")
                counts[kept] += 1
        self.assertGreater(min(counts.values()), 100)

    def test_all_takers_of_two_rooms_keep_to_both_or_to_none(self):
        takers = list(all_small_takers())
        self.assertGreater(len(takers), 400)
        for seed in range(18):
            model = Machine(*model_parts(seed, ["a"], ["x"]))
            right = widest(model)
            for taker in takers:
                self.assertEqual(keeps(model, taker)[0], keeps(right, taker)[0])

    def test_it_has_each_story_that_a_right_taker_has(self):
        kept = 0
        for seed, parts in models(50):
            model = Machine(*parts)
            right = widest(model)
            for turn in range(4):
                lists = near_parts(7 * seed + turn, parts)
                if keeps(model, Machine(*lists))[0] == "keeps":
                    kept += 1
                    for story in plain.Plain(*lists).stories(4):
                        self.assertIs(is_story(right, list(story)), True)
        self.assertGreater(kept, 60)

    def test_stories_of_some_length(self):
        model = Machine(["a"], ["x", "y"], ["p", "q"], [("p", A, "q"), ("q", X, "p"), ("q", A, "q")])
        right = widest(model)
        self.assertIs(is_story(right, [A, X, HUSH] * 30), True)
        self.assertIs(is_story(right, [A, A, X, HUSH, HUSH] * 30), True)
        self.assertIs(is_story(right, [A, X, HUSH] * 30 + [A, Y]), False)
        self.assertIs(is_story(right, [A, X, HUSH] * 30 + [A, HUSH]), False)
        self.assertIs(is_story(right, [A, X] * 30 + [X]), False)

    def test_behind_an_ask_that_the_model_does_not_foresee_all_is_right(self):
        right = widest(Machine(["a", "b"], ["x", "y"], ["p"], [("p", A, "p")]))
        for story in itertools.product([A, B, X, Y], repeat=3):
            self.assertIs(is_story(right, [A, HUSH, B] + list(story)), True)
        self.assertIs(is_story(right, [B, HUSH, A, X, HUSH]), True)
        # Who was heard to be silent stays so until it is told something.
        self.assertIs(is_story(right, [B, HUSH, X]), False)
        self.assertIs(is_story(right, [A, X]), False)

    def test_silence_that_was_heard_binds_to_other_words(self):
        right = widest(two_silences())
        for story in ([A, X], [A, Y], [HUSH, A, X], [HUSH, HUSH, A, X]):
            self.assertIs(is_story(right, story), True)
        for story in ([X], [Y], [HUSH, X], [HUSH, A, Y], [HUSH, HUSH, A, Y], [A, HUSH]):
            self.assertIs(is_story(right, story), False)

    def test_silence_that_no_right_machine_may_take(self):
        asks, says, rooms, doors = hopeless_parts()
        right = widest(Machine(asks, says, rooms, doors + [("p", X, "sayx")]))
        self.assertIs(is_story(right, [X]), True)
        self.assertIs(is_story(right, [HUSH]), False)

    def test_its_stories_are_those_of_the_spots(self):
        for seed, parts in models(25):
            right = widest(Machine(*parts))
            rights = Rights(Machine(*parts))
            for length in range(4):
                for story in itertools.product(plain.Plain(*parts).signs(), repeat=length):
                    told = right is not None and is_story(right, list(story))
                    self.assertEqual(rights.has_story(list(story)), told)

    def test_the_widest_of_the_widest(self):
        for seed, parts in models(25):
            right = widest(Machine(*parts))
            if right is not None:
                again = widest(right)
                self.assertEqual(keeps(right, again)[0], "keeps")
                self.assertEqual(keeps(again, right)[0], "keeps")

    def test_of_a_taker_that_hears_all(self):
        right = widest(kiosk())
        self.assertEqual((right.asks(), right.says()), (["coin", "card"], ["tea", "milk"]))
        self.assertIs(is_story(right, [("ask", "coin"), HUSH, ("ask", "coin"), HUSH]), True)
        self.assertIs(is_story(right, [("ask", "card"), HUSH]), False)


class Told(unittest.TestCase):
    def test_the_told_paper_is_right(self):
        told = hopeless_paper(NONE)
        self.assertIs(is_hopeless_paper(NONE, told), True)
        self.assertIs(plain.is_hopeless_paper(plain.Plain(*hopeless_parts()), told), True)
        for seed, parts in hopeless_models(80):
            told = hopeless_paper(Machine(*parts))
            self.assertIs(is_hopeless_paper(Machine(*parts), told), True)
            self.assertIs(plain.is_hopeless_paper(plain.Plain(*parts), told), True)

    def test_none_of_another_model(self):
        for machine in (kiosk(), two_silences(), chain(3), Machine(["a"], ["x"], ["r"], [])):
            self.assertIsNone(hopeless_paper(machine))
        for seed, parts in models(50):
            machine = Machine(*parts)
            self.assertEqual(hopeless_paper(machine) is None, widest(machine) is not None)

    def test_the_kinds_of_what_is_told(self):
        told = hopeless_paper(NONE)
        self.assertIs(type(told), list)
        for row in told:
            self.assertIs(type(row), tuple)
            self.assertEqual([type(thing) for thing in row], [list, tuple])
            self.assertEqual({type(face) for face in row[0]}, {tuple})
            self.assertIn(row[1][0], ("ask", "mute"))
            self.assertEqual(len(row[1]), 2)

    def test_changed_papers_change_nothing_told_later(self):
        model, twin = Machine(*hopeless_parts()), hopeless_paper(NONE)
        told = hopeless_paper(model)
        for charge, why in told:
            charge.append(("p",))
            charge.reverse()
        told.clear()
        self.assertEqual(hopeless_paper(model), twin)


class Judged(unittest.TestCase):
    def judged(self, rows, model=NONE):
        """The answer, the same as the plain words'; nothing handed in is changed."""
        before = copy.deepcopy(rows)
        answer = is_hopeless_paper(model, rows)
        self.assertEqual(rows, before)
        self.assertIs(answer, plain.is_hopeless_paper(plain.Plain(*lists_of(model)), rows))
        return answer

    def test_a_short_one(self):
        self.assertIs(self.judged(short_paper()), True)

    def test_the_paper_without_rows(self):
        self.assertIs(self.judged([]), False)
        self.assertIs(self.judged([], kiosk()), False)

    def test_a_row_left_out(self):
        for number in range(3):
            rows = short_paper()
            rows.pop(number)
            self.assertIs(self.judged(rows), False)

    def test_rows_exchanged(self):
        for order in itertools.permutations(range(3)):
            rows = [short_paper()[number] for number in order]
            self.assertIs(self.judged(rows), order == (0, 1, 2))

    def test_a_row_told_twice(self):
        for number in range(3):
            for place in range(4):
                rows = short_paper()
                rows.insert(place, short_paper()[number])
                self.assertIs(self.judged(rows), place >= number)

    def test_another_why(self):
        whys = [(kind, ask) for kind in ("ask", "mute") for ask in ("a", "b", "c", "x", "", "mute", None)]
        for number in range(3):
            for why in whys + [("say", "x"), ("still", None), ("", "a"), ("Mute", None)]:
                rows = short_paper()
                so = why == rows[number][1]
                rows[number] = (rows[number][0], why)
                self.assertIs(self.judged(rows), so, (number, why))

    def test_another_charge(self):
        charges = met(NONE) + [[("p",)], [("q",)], [("p",), ("p", "q")], [("sayx",), ("sayy",)], [("u",)]]
        for number in range(3):
            for charge in charges:
                rows = short_paper()
                so = charge == rows[number][0]
                rows[number] = (charge, rows[number][1])
                self.assertIs(self.judged(rows), so, (number, charge))

    def test_a_charge_that_is_no_met_one(self):
        rows = [([("sayx",), ("sayy",)], ("mute", None))] + short_paper()
        self.assertNotIn(rows[0][0], met(NONE))
        self.assertIs(self.judged(rows), True)

    def test_a_charge_that_is_none(self):
        last, twice = short_paper()[0][0], short_paper()[1][0]
        for wrong in (last[::-1], [last[1], last[0], last[2]], last + last[2:], last[:1] + last, [()] + last, last + [()],
                      [("sayx",), ("sayy",), ("sayy", "sayx")], [("sayx",), ("sayx", "sayx", "sayy"), ("sayy",)],
                      last + [("zz",)], [("nosuch",)] + last, [("Sayx",)] + last, [("",)] + last):
            rows = short_paper()
            rows[0] = (wrong, rows[0][1])
            self.assertIs(self.judged(rows), False, wrong)
            # Beside the right row the wrong one is still wrong.
            self.assertIs(self.judged(short_paper() + [(wrong, ("mute", None))]), False, wrong)
            self.assertIs(self.judged([(wrong, ("mute", None))] + short_paper()), False, wrong)
        for wrong in (twice[::-1], [("k", "u"), ("u", "k", "v")], [("u", "k"), ("u", "k"), ("u", "k", "v")]):
            rows = short_paper()
            rows[1] = (wrong, rows[1][1])
            self.assertIs(self.judged(rows), False, wrong)

    def test_the_charge_without_faces(self):
        for why in (("mute", None), ("mute", "a"), ("ask", "a"), ("ask", "c")):
            self.assertIs(self.judged([([], why)] + short_paper()), False)
            self.assertIs(self.judged([([], why), ([], why)] + short_paper()), False)

    def test_mute_none_where_silence_is_open(self):
        self.assertEqual(open_to(NONE, [("p", "q")]), [HUSH])
        rows = short_paper()
        rows[2] = (rows[2][0], ("mute", None))
        self.assertIs(self.judged(rows), False)

    def test_why_an_ask(self):
        asks, says, rooms, doors = hopeless_parts()
        model = Machine(asks, says, ["out"] + rooms, doors + [("out", A, "p"), ("out", X, "out")])
        paper = short_paper() + [([("out",)], ("ask", "a"))]
        self.assertIs(self.judged(paper, model), True)
        for why in (("ask", "b"), ("mute", "a"), ("mute", None), ("say", "x")):
            self.assertIs(self.judged(paper[:3] + [([("out",)], why)], model), False)
        self.assertIs(self.judged(paper[:3], model), False)
        self.assertIs(self.judged(paper[3:] + paper[:3], model), False)

    def test_each_open_say_must_stand_ahead(self):
        asks, says, rooms, doors = hopeless_parts()
        model = Machine(asks, says, ["top"] + rooms, doors + [("top", X, "p")])
        self.assertIs(self.judged(short_paper() + [([("top",)], ("mute", None))], model), True)
        model = Machine(asks, says, ["top"] + rooms, doors + [("top", X, "p"), ("top", Y, "sayx")])
        self.assertIs(self.judged(short_paper() + [([("top",)], ("mute", None))], model), False)
        self.assertIsNone(hopeless_paper(model))

    def test_mute_with_an_ask_where_silence_is_not_open(self):
        # By the words the ask of the hushed charge is enough, whether silence is open or not.
        asks, says, rooms, doors = hopeless_parts()
        model = Machine(asks, says, ["top"] + rooms, doors + [("top", X, "p"), ("top", A, "p")])
        self.assertEqual(open_to(model, [("top",)]), [X])
        self.assertEqual(charge_behind(model, hushed(model, [("top",)]), A), [("p", "q")])
        for why, so in ((("mute", "a"), True), (("mute", None), True), (("ask", "a"), True), (("mute", "b"), False)):
            self.assertIs(self.judged(short_paper() + [([("top",)], why)], model), so)

    def test_a_paper_of_another_model(self):
        paper = hopeless_paper(NONE)
        self.assertIs(is_hopeless_paper(kiosk(), paper), False)
        asks, says, rooms, doors = hopeless_parts()
        self.assertIs(self.judged(paper, Machine(asks, says, rooms, doors + [("p", X, "sayx")])), False)

    def test_no_paper_is_right_where_some_machine_keeps(self):
        for seed, parts in models(25):
            model = Machine(*parts)
            if widest(model) is not None:
                chance = random.Random(seed)
                charges = met(model)
                whys = [("mute", None)] + [(kind, ask) for kind in ("ask", "mute") for ask in parts[0]]
                rows = [(chance.choice(charges), chance.choice(whys)) for turn in range(4)]
                self.assertIs(self.judged(rows + [(first_charge(model), chance.choice(whys))], model), False)

    def test_bent_papers_against_the_plain_words(self):
        answers = {True: 0, False: 0}
        for seed, parts in hopeless_models(60):
            model = Machine(*parts)
            for turn in range(12):
                chance = random.Random(100 * seed + turn)
                rows = hopeless_paper(model)
                self.bend(chance, rows, met(model))
                answers[self.judged(rows, model)] += 1
        self.assertGreater(min(answers.values()), 40)

    def bend(self, chance, rows, charges):
        number = chance.randrange(len(rows))
        charge, why = rows[number]
        kind = chance.randrange(7)
        if kind == 0:
            rows.pop(number)
        elif kind == 1:
            other = chance.randrange(len(rows))
            rows[number], rows[other] = rows[other], rows[number]
        elif kind == 2:
            rows.insert(chance.randrange(len(rows) + 1), rows[number])
        elif kind == 3:
            rows[number] = (charge, (chance.choice(["ask", "mute"]), chance.choice(["a", "b", None, "x"])))
        elif kind == 4:
            rows[number] = (chance.choice(charges), why)
        elif kind == 5:
            rows.append((chance.choice(charges), (chance.choice(["ask", "mute"]), chance.choice(["a", "b", None]))))
        else:
            rows[number] = (chance.sample(charge, len(charge)) + charge[:chance.randrange(2)], why)


class Wide(unittest.TestCase):
    def calls(self, machine):
        return [lambda: widest(machine), lambda: hopeless_paper(machine), lambda: is_hopeless_paper(machine, []),
                lambda: is_hopeless_paper(machine, [(first_charge(machine), ("mute", None))])]

    def test_just_sixty_and_sixty_one_met(self):
        for call in self.calls(chain(60)):
            call()
        self.assertIs(is_story(widest(chain(60)), [A, HUSH] * 70), True)
        for machine in (chain(61), chain(62), chain(150)):
            for call in self.calls(machine):
                self.assertRaises(TooWide, call)

    def test_just_sixteen_and_seventeen_faces_in_one(self):
        for call in self.calls(listened(False)):
            call()
        self.assertEqual(keeps(listened(False), widest(listened(False)))[0], "keeps")
        for call in self.calls(listened(True)):
            self.assertRaises(TooWide, call)

    def test_random_ones(self):
        wide = 0
        for seed in range(30):
            parts = taker_parts(seed, ["a", "b"], ["x"], 10)
            machine = Machine(*parts)
            charges = plain.met_charges(plain.Plain(*parts), 60)
            if len(charges) > 60 or max(len(charge) for charge in charges) > 16:
                wide += 1
                for call in self.calls(machine):
                    self.assertRaises(TooWide, call)
            else:
                for call in self.calls(machine):
                    call()
        self.assertGreater(wide, 5)
        self.assertLess(wide, 25)


class OwnThings(unittest.TestCase):
    def test_the_model_stays_as_it_was(self):
        for parts in (hopeless_parts(), lists_of(two_silences())):
            model = Machine(*parts)
            for turn in range(2):
                widest(model)
                hopeless_paper(model)
                is_hopeless_paper(model, short_paper())
                self.assertEqual(lists_of(model), parts)

    def test_lists_of_the_widest_one_are_the_askers_own(self):
        model = two_silences()
        right = widest(model)
        lists = lists_of(right)
        for part in lists_of(right):
            part.clear()
        self.assertEqual(lists_of(right), lists)
        self.assertEqual(lists_of(widest(model)), lists)
        self.assertEqual(model.asks(), ["a"])

    def test_truths_are_truths(self):
        self.assertIs(type(is_hopeless_paper(NONE, short_paper())), bool)
        self.assertIs(type(is_hopeless_paper(NONE, [])), bool)


if __name__ == "__main__":
    unittest.main()
