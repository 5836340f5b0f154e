"""Point 30: a machine's text, shown and read."""

import itertools
import unittest

from mumtrial.errors import NoMachine, NoText
from mumtrial.machines import Machine
from mumtrial.texts import read, shown
from tests.samples import bent_hopeless_parts, kiosk, lists_of, model_parts, names, random_parts, refusal, words_for

STILL = ("still",)

KIOSK = """asks coin card
says tea milk
rooms hall pay brew back rest
back still rest
hall ask card brew
hall ask coin pay
pay still back
pay still brew
brew say milk hall
brew say tea hall
brew ask coin brew
rest ask coin rest
"""

SMALL = "asks a\nsays x\nrooms p q\np ask a q\nq say x p\np still q\n"


def number_of(text):
    """The number of the NoText that a text is refused with, or None."""
    try:
        read(text)
    except NoText as error:
        return error.number
    return None


def machine_refusal(text):
    try:
        read(text)
    except NoMachine as error:
        return (error.part, error.number)
    return None


def with_row(number, row):
    """The small text with another row in this place."""
    rows = SMALL.split("\n")
    rows[number] = row
    return "\n".join(rows)


class Shown(unittest.TestCase):
    def test_each_kind_of_door(self):
        self.assertEqual(shown(kiosk()), KIOSK)
        machine = Machine(["a"], ["x"], ["p", "q"], [("p", ("ask", "a"), "q"), ("q", ("say", "x"), "p"), ("p", STILL, "q")])
        self.assertEqual(shown(machine), SMALL)

    def test_without_doors(self):
        self.assertEqual(shown(Machine(["b", "a"], ["x"], ["r"], [])), "asks b a\nsays x\nrooms r\n")

    def test_doors_in_their_order(self):
        doors = [("q", STILL, "p"), ("p", ("ask", "a"), "q"), ("p", ("ask", "a"), "p")]
        for order in itertools.permutations(doors):
            rows = shown(Machine(["a"], ["x"], ["p", "q"], list(order))).split("\n")[3:]
            told = {doors[0]: "q still p", doors[1]: "p ask a q", doors[2]: "p ask a p"}
            self.assertEqual(rows, [told[door] for door in order] + [""])

    def test_it_is_a_text(self):
        self.assertIs(type(shown(kiosk())), str)


class Read(unittest.TestCase):
    def test_the_same_lists_and_the_same_text_again(self):
        machines = [kiosk(), Machine(["a"], ["x"], ["r"], [])]
        machines += [Machine(*random_parts(seed)) for seed in range(80)]
        machines += [Machine(*bent_hopeless_parts(seed)) for seed in range(20)]
        machines += [Machine(*model_parts(seed, *words_for(seed))) for seed in range(40)]
        for machine in machines:
            again = read(shown(machine))
            self.assertIsInstance(again, Machine)
            self.assertEqual(lists_of(again), lists_of(machine))
            self.assertEqual(shown(again), shown(machine))

    def test_words_that_are_called_like_rows_and_signs(self):
        machine = Machine(["asks", "ask", "still"], ["says", "say"], ["rooms", "still", "ask", "say"], [
            ("still", ("ask", "still"), "still"), ("ask", ("ask", "ask"), "ask"), ("rooms", ("say", "say"), "say"),
            ("still", STILL, "ask"), ("say", STILL, "still")])
        self.assertEqual(lists_of(read(shown(machine))), lists_of(machine))
        self.assertIn("still ask still still\nask ask ask ask\n", shown(machine))

    def test_the_biggest(self):
        rooms = names(150)
        doors = [(start, ("ask", "a"), goal) for start in rooms for goal in rooms][:2000]
        machine = Machine(list("abcd"), list("wxyz"), rooms, doors)
        self.assertEqual(lists_of(read(shown(machine))), lists_of(machine))

    def test_the_text_without_signs(self):
        self.assertEqual(number_of(""), 0)

    def test_one_of_the_first_three_missing(self):
        rows = SMALL.split("\n")[:3]
        for count in range(3):
            self.assertEqual(number_of("".join(row + "\n" for row in rows[:count])), count)
        self.assertEqual(number_of("says x\nrooms p\n"), 0)
        self.assertEqual(number_of("asks a\nrooms p\n"), 1)
        self.assertEqual(number_of("asks a\nsays x\np ask a p\n"), 2)

    def test_without_names(self):
        for number, head in enumerate(("asks", "says", "rooms")):
            self.assertEqual(number_of(with_row(number, head)), number)
            self.assertEqual(number_of(with_row(number, head + " ")), number)
            self.assertEqual(number_of(with_row(number, " " + head)), number)

    def test_with_another_head(self):
        for number, name in enumerate(("a", "x", "p q")):
            for head in ("ask", "Asks", "asks:", "room", "words", "", "asks\t", "still") + ("asks", "says", "rooms"):
                if head != ("asks", "says", "rooms")[number]:
                    self.assertEqual(number_of(with_row(number, head + " " + name)), number, head)

    def test_blanks(self):
        for number, row in enumerate(SMALL.split("\n")[:-1]):
            self.assertEqual(number_of(with_row(number, " " + row)), number)
            self.assertEqual(number_of(with_row(number, row + " ")), number)
            for place in [place for place, sign in enumerate(row) if sign == " "]:
                self.assertEqual(number_of(with_row(number, row[:place] + " " + row[place:])), number)
                fewer = with_row(number, row[:place] + row[place + 1:])
                if row == "rooms p q" and place == 7:
                    self.assertEqual(machine_refusal(fewer), ("doors", 0))
                else:
                    self.assertEqual(number_of(fewer), number)

    def test_a_tab_in_place_of_a_blank(self):
        for number, row in enumerate(SMALL.split("\n")[:-1]):
            for place in [place for place, sign in enumerate(row) if sign == " "]:
                text = with_row(number, row[:place] + "\t" + row[place + 1:])
                if row == "rooms p q" and place == 7:
                    # A tab is no blank: this is one name, and none that a room can bear.
                    self.assertEqual(machine_refusal(text), ("rooms", 0))
                else:
                    self.assertEqual(number_of(text), number)

    def test_a_tab_within_a_name_is_a_sign_of_it(self):
        self.assertEqual(machine_refusal(with_row(0, "asks a\tb")), ("asks", 0))
        self.assertEqual(machine_refusal(with_row(1, "says x \t")), ("says", 1))
        self.assertEqual(machine_refusal(with_row(3, "p ask a\t q")), ("doors", 0))
        self.assertEqual(machine_refusal(with_row(5, "\tp still q")), ("doors", 2))
        self.assertEqual(number_of(with_row(3, "p ask\t a q")), 3)
        self.assertEqual(number_of(with_row(5, "p still\t q")), 5)

    def test_a_word_too_many_or_too_few(self):
        for row in ("p ask a", "ask a q", "p a q", "p q", "p", "p ask a q q", "p p ask a q", "p say x", "p say x q p",
                    "p still", "still q", "p still q q", "p still x q", "p p still q", "p tell a q", "p Ask a q", "p hush q",
                    "p hush p", "p ask a q p q", "p asks a q", "p asking q", "asks a", "rooms p q", "rooms p"):
            for number in (3, 4, 5):
                self.assertEqual(number_of(with_row(number, row)), number, row)

    def test_an_empty_row(self):
        for number in range(6):
            self.assertEqual(number_of(with_row(number, "")), number)
            rows = SMALL.split("\n")
            rows.insert(number, "")
            self.assertEqual(number_of("\n".join(rows)), number)

    def test_the_last_line_feed_left_out(self):
        self.assertEqual(number_of(SMALL[:-1]), 5)
        self.assertEqual(number_of("asks a\nsays x\nrooms p"), 2)
        self.assertEqual(number_of("asks a\nsays x"), 1)
        self.assertEqual(number_of("asks a"), 0)
        self.assertEqual(number_of(SMALL + " "), 6)
        self.assertEqual(number_of(SMALL + "\t"), 6)
        self.assertEqual(number_of(SMALL + "p still q"), 6)

    def test_one_line_feed_more(self):
        self.assertEqual(number_of(SMALL + "\n"), 6)
        self.assertEqual(number_of(SMALL + "\n\n"), 6)
        self.assertEqual(number_of("\n" + SMALL), 0)
        self.assertEqual(number_of("\n"), 0)
        self.assertEqual(number_of("asks a\nsays x\nrooms p\n\n"), 3)

    def test_the_first_of_several(self):
        self.assertEqual(number_of("asks a\nsays\nrooms\np ask\n"), 1)
        self.assertEqual(number_of("asks a\nsays x\nrooms p\np still q\np ask\nq"), 4)
        self.assertEqual(number_of("asks a\n\n"), 1)
        self.assertEqual(number_of("asks a\nsays  x"), 1)

    def test_names_may_be_any_texts(self):
        self.assertEqual(machine_refusal(with_row(0, "asks A")), ("asks", 0))
        self.assertEqual(machine_refusal(with_row(0, "asks a b c d e")), ("asks", 4))
        self.assertEqual(machine_refusal(with_row(0, "asks a a")), ("asks", 1))
        self.assertEqual(machine_refusal(with_row(1, "says a")), ("says", 0))
        self.assertEqual(machine_refusal(with_row(1, "says x ~!,.;-_")), ("says", 1))
        self.assertEqual(machine_refusal(with_row(2, "rooms p q toolongname")), ("rooms", 2))
        self.assertEqual(machine_refusal(with_row(2, "rooms p q p")), ("rooms", 2))

    def test_a_row_that_is_no_door_of_the_machine(self):
        self.assertEqual(machine_refusal(with_row(3, "r ask a q")), ("doors", 0))
        self.assertEqual(machine_refusal(with_row(4, "q say y p")), ("doors", 1))
        self.assertEqual(machine_refusal(with_row(4, "q ask x p")), ("doors", 1))
        self.assertEqual(machine_refusal(with_row(4, "q say a p")), ("doors", 1))
        self.assertEqual(machine_refusal(with_row(5, "p ask a q")), ("doors", 2))
        self.assertEqual(machine_refusal(with_row(5, "p still P")), ("doors", 2))
        self.assertEqual(machine_refusal(with_row(5, "q still q")), ("still", 1))
        self.assertEqual(machine_refusal(SMALL + "q still p\n"), ("still", 0))

    def test_too_many_rooms_and_doors(self):
        text = "asks a\nsays x\nrooms " + " ".join(names(151)) + "\n"
        self.assertEqual(machine_refusal(text), ("rooms", 150))
        rooms = names(50)
        doors = [(start, ("ask", "a"), goal) for start in rooms for goal in rooms][:2001]
        text = "asks a\nsays x\nrooms " + " ".join(rooms) + "\n"
        text += "".join(start + " ask a " + goal + "\n" for start, sign, goal in doors)
        self.assertEqual(machine_refusal(text), ("doors", 2000))

    def test_as_of_lists(self):
        for seed in range(60):
            asks, says, rooms, doors = random_parts(seed)
            lists = [asks, says, rooms, doors]
            if seed % 4 == 0:
                lists[0] = asks + [says[0]]
            elif seed % 4 == 1:
                lists[2] = rooms[:1]
            elif seed % 4 == 2:
                lists[3] = doors + doors[:1]
            else:
                lists[3] = doors + [(rooms[0], STILL, rooms[0])]
            rows = [" ".join([head] + part) for head, part in zip(("asks", "says", "rooms"), lists)]
            rows += [" ".join((door[0],) + door[1] + (door[2],)) for door in lists[3]]
            self.assertEqual(machine_refusal("".join(row + "\n" for row in rows)), refusal(*lists))

    def test_no_text_goes_ahead_of_no_machine(self):
        for wrong in (with_row(0, "asks A"), with_row(2, "rooms p p"), with_row(3, "r ask a q"), with_row(5, "q still q")):
            self.assertIsNotNone(machine_refusal(wrong))
            self.assertEqual(number_of(wrong + "p still\n"), 6)
            self.assertEqual(number_of(wrong + "\n"), 6)
            self.assertEqual(number_of(wrong[:-1]), 5)


class OwnThings(unittest.TestCase):
    def test_the_machine_stays_as_it_was(self):
        machine = kiosk()
        for turn in range(2):
            self.assertEqual(shown(machine), KIOSK)
            for part in lists_of(machine):
                part.clear()
        self.assertEqual(lists_of(machine), lists_of(kiosk()))

    def test_read_twice_are_two_machines(self):
        one, other = read(KIOSK), read(KIOSK)
        one.doors().clear()
        self.assertEqual(lists_of(one), lists_of(other))

    def test_a_refusal_changes_nothing(self):
        for turn in range(2):
            self.assertEqual(number_of(KIOSK + "x"), 12)
            self.assertEqual(lists_of(read(KIOSK)), lists_of(kiosk()))


if __name__ == "__main__":
    unittest.main()
