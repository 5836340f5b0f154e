"""Machines: words, rooms and doors, looked over once, when a machine is made."""

from mumtrial.errors import NoMachine

LETTERS = "abcdefghijklmnopqrstuvwxyz"
LONGEST_NAME = 8
MOST_WORDS = 4
MOST_ROOMS = 150
MOST_DOORS = 2000
STILL = ("still",)


def is_name(text):
    return text != "" and len(text) <= LONGEST_NAME and all([letter in LETTERS for letter in text])


# Two letters are enough: no machine has more than 150 rooms.
def name_of_number(number):
    tens, ones = divmod(number, len(LETTERS))
    return LETTERS[tens] + LETTERS[ones]


def as_keys(things):
    keys = {}
    for thing in things:
        keys[thing] = True
    return keys


def first_wrong_name(names, most, taken):
    if len(names) == 0:
        return 0
    ahead = as_keys(taken)
    for number, name in enumerate(names):
        if number == most or name in ahead or not is_name(name):
            return number
        ahead[name] = True
    return None


def door_signs(asks, says):
    return [("ask", ask) for ask in asks] + [("say", say) for say in says] + [STILL]


def first_wrong_door(doors, rooms, signs):
    own_rooms = as_keys(rooms)
    ahead = {}
    for number, door in enumerate(doors):
        if number == MOST_DOORS or door in ahead:
            return number
        if door[0] not in own_rooms or door[1] not in signs or door[2] not in own_rooms:
            return number
        ahead[door] = True
    return None


def goals_by_start_and_sign(doors):
    goals = {}
    for start, sign, goal in doors:
        goals.setdefault((start, sign), []).append(goal)
    return goals


# A list of rooms still to be looked at, not a def that calls itself: a chain of still doors may be 150 rooms long.
def led_by_still(goals, room):
    led = {}
    waiting = [room]
    while len(waiting) > 0:
        here = waiting.pop()
        for goal in goals.get((here, STILL), ()):
            if goal not in led:
                led[goal] = True
                waiting.append(goal)
    return led


def first_led_round(rooms, led):
    for number, room in enumerate(rooms):
        if room in led[room]:
            return number
    return None


def need_none(part, number):
    if number is not None:
        raise NoMachine(part, number)


# Each part is looked at only when those ahead of it are so: the first that isn't is the one to be told.
def need_parts(asks, says, rooms, doors):
    need_none("asks", first_wrong_name(asks, MOST_WORDS, []))
    need_none("says", first_wrong_name(says, MOST_WORDS, asks))
    need_none("rooms", first_wrong_name(rooms, MOST_ROOMS, []))
    need_none("doors", first_wrong_door(doors, rooms, door_signs(asks, says)))


def doors_by_start(rooms, doors):
    leaving = {}
    for room in rooms:
        leaving[room] = []
    for door in doors:
        leaving[door[0]].append(door)
    return leaving


def has_asks_alone(doors):
    return all([door[1][0] == "ask" for door in doors])


class Machine:
    def __init__(self, asks, says, rooms, doors):
        need_parts(asks, says, rooms, doors)
        self.own_asks = list(asks)
        self.own_says = list(says)
        self.own_rooms = list(rooms)
        self.own_doors = list(doors)
        self.leaving = doors_by_start(rooms, doors)
        self.quiet = as_keys([room for room in rooms if has_asks_alone(self.leaving[room])])
        # Faces ask for these again and again, so they are found once.
        self.sign_goals = goals_by_start_and_sign(doors)
        self.still_led = dict([(room, led_by_still(self.sign_goals, room)) for room in rooms])
        need_none("still", first_led_round(rooms, self.still_led))

    def asks(self):
        return list(self.own_asks)

    def says(self):
        return list(self.own_says)

    def rooms(self):
        return list(self.own_rooms)

    def doors(self):
        return list(self.own_doors)

    def is_quiet(self, room):
        return room in self.quiet

    def doors_from(self, room):
        return list(self.leaving.get(room, ()))

    def goals(self, room, sign):
        return list(self.sign_goals.get((room, sign), ()))

    def led_from(self, room):
        return list(self.still_led.get(room, ()))
