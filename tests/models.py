"""
Models of places, rooms and plants by the document's words, apart from the program: slow, and as plain as can be. They
are asked with things of the right kinds alone; what hangs on more than one thing they refuse as the document tells.
"""

from panelwatch import errors
from tests.test_alarms import told_by_ticks
from tests.test_hearing import history_of, known_of, shown_of
from tests.test_lists import list_by_words


class Refused(Exception):
    """What the document refuses: the error's class, and what its field tells."""

    def __init__(self, error, value):
        super().__init__(error.__name__)
        self.error = error
        self.value = value


def holds(lock, worth):
    return worth > lock[2] if lock[1] == "above" else worth < lock[2]


class PlaceModel:
    """Points 91 to 95: of a point all that counts is the last sign that was noted of it."""

    def __init__(self, works, name):
        self.works = works
        self.name = name
        self.clock = 0
        self.own = 0
        self.signs = []
        self.letters = []
        self.ids = []
        self.commands = []

    def truth(self, point):
        rows = [row for row in self.signs if row[1] == point]
        return rows[-1][2:] if rows else (0, "good")

    def waiting(self):
        return self.signs[sum(len(letter[4]) for letter in self.letters):]

    def come_to(self, time):
        if time < self.clock:
            raise Refused(errors.NotNow, time)
        self.clock = time

    def change(self, point, worth, time, mark="good"):
        self.come_to(time)
        if self.truth(point) == (worth, mark):
            return False
        self.signs.append((time, point, worth, mark))
        return True

    def send(self, time):
        self.come_to(time)
        letter = ("signs", self.name, len(self.letters) + 1, time, tuple(self.waiting()))
        self.letters.append(letter)
        return letter

    def hears(self, letter, time):
        self.come_to(time)
        if letter[0] == "term":
            self.own = max(self.own, letter[1])
            return ("terms", self.name, self.own, time)
        ident = letter[1]
        if ident not in dict(self.ids):
            word = "refused"
            if letter[0] == "do":
                self.own = max(self.own, ident[0])
                name, point, worth, locks = self.works.command(letter[2])
                here = self.works.point(point)[1] == self.name
                if here and self.own == ident[0] and all(holds(lock, self.truth(lock[0])[0]) for lock in locks):
                    word = "done"
                    self.change(point, worth, time)
                    self.commands.append((ident, name, time))
            self.ids.append((ident, word))
        return ("answer", self.name, ident, dict(self.ids)[ident], self.own, time)

    def look(self):
        points = self.works.points_at(self.name)
        return (
            self.name, self.clock, self.own, [self.truth(point) for point in points], self.waiting(),
            len(self.letters), self.letters, self.ids, self.commands,
        )


def look_at_place(place, works):
    """All that a place tells, as the model looks."""
    points = works.points_at(place.name())
    return (
        place.name(), place.time(), place.term(), [(place.worth(point), place.mark(point)) for point in points],
        place.waiting(), len(place), [place.letter(number + 1) for number in range(len(place))],
        list(place.met().items()), place.done(),
    )


class RoomModel:
    """Points 101 to 107: a room is nothing but its rows, of which all is made anew whenever it is asked."""

    def __init__(self, works, number, rows=()):
        self.works = works
        self.number = number
        self.rows = list(rows)

    def made(self):
        """All that the rows make, a dict."""
        made = {
            "term": 0 if self.number == 0 else None, "knows": 0 if self.number == 0 else None, "letters": {},
            "ids": {}, "hands": [], "shelves": [], "last": 0,
        }
        for row in self.rows:
            getattr(self, "make_" + row[0])(made, *row[1:])
            made["last"] = row[2] if row[0] == "did" else row[-1]
        return made

    def make_heard(self, made, letter, _):
        if letter[0] == "signs":
            made["letters"][letter[1:3]] = letter
            return
        if letter[0] == "answer" and letter[2] in made["ids"] and made["ids"][letter[2]][1] == "under way":
            made["ids"][letter[2]][1] = letter[3]
        term = letter[2] if letter[0] == "terms" else letter[4]
        made["knows"] = term if made["knows"] is None else max(term, made["knows"])

    def make_over(self, made, _):
        made["term"] = made["knows"] = self.next_term(made)

    def make_chosen(self, made, command, _):
        made["ids"][self.next_id(made)] = [command, "chosen", None, None]

    def make_did(self, made, ident, time, wait):
        made["ids"][ident][1:] = ["under way", time, wait]

    def make_again(self, made, ident, time):
        made["ids"][ident][2] = time

    def make_back(self, made, ident, time):
        if made["ids"][ident][1] == "chosen":
            made["ids"][ident][1] = "dropped"
        else:
            made["ids"][ident][2] = time

    def make_hand(self, made, point, worth, since, end, _):
        made["hands"].append((point, worth, since, end))

    def make_unhand(self, made, point, time):
        at = self.hand_at(made, point, time)
        point, worth, since, _ = made["hands"][at]
        made["hands"][at:at + 1] = [(point, worth, since, time)] if since < time else []

    def make_shelved(self, made, rule, since, end, _):
        made["shelves"].append((rule, since, end))

    def make_unshelved(self, made, rule, time):
        ended = []
        for name, since, end in made["shelves"]:
            if name == rule and since <= time < end:
                ended.extend([(name, since, time)] if since < time else [])
            else:
                ended.append((name, since, end))
        made["shelves"] = ended

    def next_term(self, made):
        least = -1 if made["knows"] is None else made["knows"]
        terms = [term for term in range(1000) if term % 2 == self.number and term > least]
        if not terms:
            raise Refused(errors.TooMany, 1000)
        return terms[0]

    def next_id(self, made):
        numbers = [number for term, number in made["ids"] if term == made["term"]]
        return (made["term"], max(numbers, default=0) + 1)

    def hand_at(self, made, point, at):
        counts = [
            index for index, hand in enumerate(made["hands"]) if hand[0] == point and hand[2] <= at < hand[3]
        ]
        return counts[-1] if counts else None

    def begin(self, time):
        made = self.made()
        if time < made["last"]:
            raise Refused(errors.NotNow, time)
        return made

    def place_of(self, command):
        return self.works.point(self.works.command(command)[1])[1]

    def hears(self, letter, time):
        made = self.begin(time)
        if letter[0] == "signs":
            for other in made["letters"].values():
                if other[1] == letter[1] and other != letter:
                    less, more = sorted([other, letter], key=lambda one: one[2])
                    if less[2] == more[2] or any(at < less[3] for at in [row[0] for row in more[4]] + [more[3]]):
                        raise Refused(errors.Unlike, letter)
        self.rows.append(("heard", letter, time))
        # What the room was told counts where it stands otherwise behind it, the time apart.
        if {**self.made(), "last": 0} == {**made, "last": 0}:
            self.rows.pop()
            return False
        return True

    def take_over(self, time):
        term = self.next_term(self.begin(time))
        self.rows.append(("over", time))
        return [(place, ("term", term)) for place in self.works.places()]

    def check_term(self, made):
        if made["term"] is None or made["knows"] > made["term"]:
            raise Refused(errors.NotNow, made["term"])

    def choose(self, command, time):
        made = self.begin(time)
        self.check_term(made)
        for lock in self.works.command(command)[3]:
            worth = self.show(lock[0], time)[0]
            if worth is not None and not holds(lock, worth):
                raise Refused(errors.Locked, lock)
        ident = self.next_id(made)
        if ident[1] > 999:
            raise Refused(errors.TooMany, 1000)
        self.rows.append(("chosen", command, time))
        return ident

    def command_that_is(self, made, ident, *words):
        if ident not in made["ids"]:
            raise Refused(errors.NotThere, ident)
        if made["ids"][ident][1] not in words:
            raise Refused(errors.NotNow, ident)
        return made["ids"][ident][0]

    def do(self, ident, time, wait=10):
        made = self.begin(time)
        self.check_term(made)
        command = self.command_that_is(made, ident, "chosen")
        self.rows.append(("did", ident, time, wait))
        return (self.place_of(command), ("do", ident, command))

    def again(self, ident, time):
        command = self.command_that_is(self.begin(time), ident, "under way")
        self.rows.append(("again", ident, time))
        return (self.place_of(command), ("do", ident, command))

    def back(self, ident, time):
        made = self.begin(time)
        command = self.command_that_is(made, ident, "chosen", "under way")
        self.rows.append(("back", ident, time))
        return None if made["ids"][ident][1] == "chosen" else (self.place_of(command), ("back", ident))

    def hand(self, point, worth, since, end, time):
        if end <= since:
            raise Refused(errors.NoTime, end)
        self.begin(time)
        self.rows.append(("hand", point, worth, since, end, time))

    def unhand(self, point, time):
        if self.hand_at(self.begin(time), point, time) is None:
            raise Refused(errors.NotThere, point)
        self.rows.append(("unhand", point, time))

    def shelve(self, rule, since, end, time):
        if end <= since:
            raise Refused(errors.NoTime, end)
        if len(self.begin(time)["shelves"]) == 20:
            raise Refused(errors.TooMany, 21)
        self.rows.append(("shelved", rule, since, end, time))

    def unshelve(self, rule, time):
        shelves = self.begin(time)["shelves"]
        if not any(name == rule and since <= time < end for name, since, end in shelves):
            raise Refused(errors.NotThere, rule)
        self.rows.append(("unshelved", rule, time))

    def show(self, point, at):
        made = self.made()
        hand = self.hand_at(made, point, at)
        if hand is not None:
            return (made["hands"][hand][1], made["hands"][hand][2], "good", "hand")
        return shown_of(self.works, list(made["letters"].values()), point, at)

    def state(self, ident, at):
        _, word, last, wait = self.made()["ids"][ident]
        if word != "under way":
            return word
        return "asked" if at < last + wait else "unknown"

    def alarms(self, at, most=9):
        made, events = self.made(), {}
        letters = list(made["letters"].values())
        for rule in self.works.rules():
            events[rule[0]] = told_by_ticks(rule, history_of(letters, rule[1]), at)
        return list_by_words(self.works, events, at, made["shelves"], most)

    def look(self, moments):
        made = self.made()
        letters = list(made["letters"].values())
        return (
            self.number, made["term"], made["knows"], made["shelves"], self.rows, made["hands"],
            sorted(letters, key=lambda letter: letter[1:3]),
            [known_of(letters, place) for place in self.works.places()],
            [[(ident, made["ids"][ident][0], self.state(ident, at)) for ident in made["ids"]] for at in moments],
            [[self.show(name, at) for name, _, _ in self.works.points()] for at in moments],
        )


def look_at_room(room, moments):
    """All that a room tells but its alarms, as the model looks."""
    works, hearing = room.works(), room.hearing()
    return (
        room.number(), room.term(), room.knows(), room.shelves(), room.log(), hearing.hands(), hearing.letters(),
        [hearing.known(place) for place in works.places()], [room.ids(at) for at in moments],
        [[room.show(name, at) for name, _, _ in works.points()] for at in moments],
    )


class PlantModel:
    """Points 111 to 113: the places, the rooms, a dict of what is under way, and the clock."""

    def __init__(self, works):
        self.works = works
        self.clock = 0
        self.places = {name: PlaceModel(works, name) for name in works.places()}
        self.rooms = [RoomModel(works, 0), RoomModel(works, 1)]
        self.fallen = []
        self.road = {}
        self.last = 0
        self.deeds = []

    def put(self, start, goal, letter):
        self.last += 1
        self.road[self.last] = (start, goal, letter)
        return self.last

    def put_to_rooms(self, place, letter):
        self.put(place, 0, letter)
        self.put(place, 1, letter)

    def do(self, deed):
        """Do a deed and tell what it tells."""
        told = getattr(self, "do_" + deed[0], self.do_in_room)(*deed)
        self.deeds.append(deed)
        return told

    def do_wait(self, _, many):
        if not 1 <= many <= 9999 - self.clock:
            raise Refused(errors.NoNumber, many)
        self.clock += many

    def do_change(self, _, point, worth, mark):
        self.places[self.works.point(point)[1]].change(point, worth, self.clock, mark)

    def do_send(self, _, place):
        self.put_to_rooms(place, self.places[place].send(self.clock))

    def borne(self, number):
        if number not in self.road:
            raise Refused(errors.NotOnRoad, number)
        return self.road[number]

    def do_come(self, _, number):
        _, goal, letter = self.borne(number)
        del self.road[number]
        if goal in self.places:
            self.put_to_rooms(goal, self.places[goal].hears(letter, self.clock))
            return True
        return goal not in self.fallen and self.rooms[goal].hears(letter, self.clock)

    def do_lose(self, _, number):
        self.borne(number)
        del self.road[number]

    def do_double(self, _, number):
        return self.put(*self.borne(number))

    def do_fall(self, _, room):
        if room in self.fallen:
            raise Refused(errors.Down, room)
        self.fallen.append(room)

    def do_rise(self, _, room):
        if room not in self.fallen:
            raise Refused(errors.Stands, room)
        self.fallen.remove(room)

    def do_in_room(self, word, room, *things):
        if room in self.fallen:
            raise Refused(errors.Down, room)
        told = getattr(self.rooms[room], word)(*things, self.clock)
        if word == "choose":
            return told
        letters = told if word == "take_over" else [told] if told is not None else []
        for place, letter in letters:
            self.put(room, place, letter)
        return None

    def look(self, moments):
        return (
            self.clock, [self.places[name].look() for name in self.works.places()],
            [room.look(moments) for room in self.rooms], [room not in self.fallen for room in (0, 1)],
            [(number, *self.road[number]) for number in sorted(self.road)], self.deeds,
        )


def look_at_plant(plant, moments):
    """All that a plant tells but the rooms' alarms, as the model looks."""
    works = plant.works()
    return (
        plant.now(), [look_at_place(plant.place(name), works) for name in works.places()],
        [look_at_room(plant.room(number), moments) for number in (0, 1)], [plant.stands(room) for room in (0, 1)],
        plant.under_way(), plant.deeds(),
    )
