"""Tests of the logs of panelwatch.rooms, point 101, and of panelwatch.drills, point 114."""

import random
import time
import unittest

from panelwatch.drills import drill
from panelwatch.errors import NoLog, NoNumber, NoRoom, NoRow, NoWorks
from panelwatch.plant import Plant
from panelwatch.rooms import Room, room_of
from panelwatch.words import is_id
from panelwatch.works import Works
from tests import deeds
from tests.models import Refused, RoomModel, look_at_room
from tests.things import PanelCase, others, sample, whole, wrong

NO_WORKS = wrong(lambda thing: isinstance(thing, Works))
NO_ROOMS = [*wrong(whole(0, 1)), True, 2]
NO_LOGS = wrong(lambda thing: type(thing) in (list, tuple))
MOMENTS = (0, 3, 7, 12, 60)
SIGNS = ("signs", "north", 1, 9, ((3, "lv", 46, "good"), (7, "v", 0, "odd")))
LOG = [
    ("heard", SIGNS, 1), ("chosen", "fill", 2), ("chosen", "open", 3), ("did", (0, 1), 3, 10), ("did", (0, 2), 3, 1),
    ("again", (0, 1), 4), ("back", (0, 2), 5), ("heard", ("answer", "east", (0, 1), "done", 0, 4), 6),
    ("hand", "lv", 7, 2, 30, 6), ("shelved", "high", 0, 99, 7), ("heard", ("terms", "dam", 3, 7), 8),
    ("unhand", "lv", 9),
    ("unshelved", "high", 9), ("over", 10), ("chosen", "drain", 11), ("back", (4, 1), 12),
]
# The deed of the model that writes a row, and where the row has the deed's time.
DEEDS = {
    "heard": "hears", "over": "take_over", "chosen": "choose", "did": "do", "again": "again", "back": "back",
    "hand": "hand", "unhand": "unhand", "shelved": "shelve", "unshelved": "unshelve",
}


def model_of(works, number, rows):
    """The model that did what the rows tell, and the number of the first one that was refused or changed nothing."""
    model = RoomModel(works, number)
    for at, row in enumerate(rows):
        try:
            if getattr(model, DEEDS[row[0]])(*row[1:]) is False:
                return model, at
        except Refused:
            return model, at
    return model, None


class LogCase(PanelCase):
    def made_or_refused(self, works, number, rows):
        """A room of rows is as the model is, or refused with the number of the row that the model refuses."""
        model, at = model_of(works, number, rows)
        if at is not None:
            self.refused(NoRow, at, room_of, works, number, rows)
            return False
        room = room_of(works, number, rows)
        self.is_just(look_at_room(room, MOMENTS), model.look(MOMENTS))
        return True


class RoomOfTest(LogCase):
    def test_each_beginning(self):
        room = Room(sample(), 0)
        for many in range(len(LOG) + 1):
            self.assertTrue(self.made_or_refused(sample(), 0, LOG[:many]))
            self.is_just(room_of(sample(), 0, LOG[:many]).log(), LOG[:many])
            self.assertTrue(room_of(rows=tuple(LOG[:many]), number=0, works=sample()) == room)
            if many < len(LOG):
                word, *things = LOG[many]
                named = {"wait": things.pop()} if word == "did" else {}
                getattr(room, DEEDS[word])(*things, **named)
                self.is_just(room.log(), LOG[:many + 1])

    def test_no_row(self):
        self.assertTrue(room_of(sample(), 1, []) == Room(sample(), 1))
        self.assertTrue(room_of(sample(), 0, ()) == Room(sample(), 0))

    def test_refused(self):
        self.look_at_arguments(
            lambda **named: room_of(**named).marks(), ("works", sample(), NO_WORKS, NoWorks),
            ("number", 0, NO_ROOMS, NoRoom), ("rows", LOG, NO_LOGS, NoLog),
        )
        # The rows of room 0 are not those of room 1.
        self.refused(NoRow, 1, room_of, sample(), 1, LOG)

    def test_no_rows(self):
        for thing in others():
            for at in (0, 5, len(LOG)):
                self.refused(NoRow, at, room_of, sample(), 0, [*LOG[:at], thing, *LOG[at:]])
                self.refused(NoRow, at, room_of, sample(), 0, (*LOG[:at], thing, None))

    def test_rows_of_other_forms(self):
        for at, row in enumerate(LOG):
            forms = [list(row), row[:-1], (*row, row[-1]), (*row, 10), row[1:], (row,), (row[0].title(), *row[1:]),
                     row[::-1]]
            forms.extend([(word, *row[1:]) for word in ("", "hear", "take_over", "choose", "do", "shelve", "unshelve",
                                                        None)])
            for form in forms:
                self.refused(NoRow, at, room_of, sample(), 0, [*LOG[:at], form, *LOG[at + 1:]])
        self.refused(NoRow, 3, room_of, sample(), 0, [*LOG[:3], ("did", (0, 1), 3)])

    def test_each_thing_of_another_kind(self):
        for at, row in enumerate(LOG):
            for place in range(len(row)):
                for thing in others():
                    # Other things of the right kind may do: of them the next test tells.
                    if type(thing) is type(row[place]) and (not isinstance(thing, tuple) or is_id(thing)):
                        continue
                    changed = (*row[:place], thing, *row[place + 1:])
                    self.refused(NoRow, at, room_of, sample(), 0, [*LOG[:at], changed, *LOG[at + 1:]])

    def test_one_thing_otherwise(self):
        others_of = {
            int: (0, 1, 2, 3, 5, 9, 10, 11, 30, 99, 999), str: ("fill", "open", "drain", "lv", "v", "high", "low"),
            tuple: ((0, 1), (0, 2), (0, 3), (4, 1), SIGNS, ("terms", "dam", 0, 0), ("terms", "dam", 5, 0)),
        }
        kinds = {
            "heard": (tuple, int), "over": (int,), "chosen": (str, int), "did": (tuple, int, int),
            "again": (tuple, int),
            "back": (tuple, int), "hand": (None, int, int, int, int), "unhand": (None, int),
            "shelved": (None, int, int, int), "unshelved": (None, int),
        }
        made = []
        for at, row in enumerate(LOG):
            for place, kind in enumerate(kinds[row[0]], 1):
                for thing in others_of.get(kind, ()):
                    if kind is tuple and (len(thing) > 2) != (row[0] == "heard"):
                        continue
                    if kind is str and thing not in ("fill", "open", "drain"):
                        continue
                    # No wait is 0, and no worth is greater than 63.
                    if (row[0], place) == ("did", 3) and thing == 0 or (row[0], place) == ("hand", 2) and thing > 63:
                        continue
                    changed = (*row[:place], thing, *row[place + 1:])
                    made.append(self.made_or_refused(sample(), 0, [*LOG[:at], changed, *LOG[at + 1:]]))
        self.assertGreater(made.count(True), 50)
        self.assertGreater(made.count(False), 50)

    def test_left_out_told_twice_and_put_elsewhere(self):
        made = []
        for at in range(len(LOG)):
            rest = [*LOG[:at], *LOG[at + 1:]]
            made.append(self.made_or_refused(sample(), 0, rest))
            made.append(self.made_or_refused(sample(), 0, [*LOG[:at + 1], *LOG[at:]]))
            for other in range(len(rest) + 1):
                made.append(self.made_or_refused(sample(), 0, [*rest[:other], LOG[at], *rest[other:]]))
        self.assertGreater(made.count(True), 10)
        self.assertGreater(made.count(False), 100)

    def test_rows_that_change_nothing(self):
        for row in (("heard", SIGNS, 9), ("heard", ("terms", "dam", 4, 0), 20),
                    ("heard", ("answer", "east", (0, 1), "refused", 0, 4), 20)):
            self.refused(NoRow, len(LOG), room_of, sample(), 0, [*LOG, (*row[:2], 20)])

    def test_a_list_changed_afterwards_changes_nothing(self):
        rows = list(LOG)
        room = room_of(sample(), 0, rows)
        rows.clear()
        self.is_just(room.log(), LOG)
        told = room.log()
        room_of(sample(), 0, told)
        self.is_just(told, LOG)


class LogsOfPlantsTest(LogCase):
    def test_rooms_as_they_were_then(self):
        chance = random.Random(101)
        for _ in range(20):
            plant, was = Plant(sample()), [[], []]
            for _ in range(120):
                deed = deeds.draw(chance, plant)
                if deeds.may_be_done(plant, deed):
                    try:
                        deeds.do(plant, deed)
                    except (ValueError, LookupError):
                        pass
                for number in (0, 1):
                    room = plant.room(number)
                    if len(room.log()) > len(was[number]):
                        was[number].append(room)
            for number in (0, 1):
                log = plant.room(number).log()
                for many, room in enumerate([Room(sample(), number), *was[number]]):
                    told = drill(sample(), number, log, many)
                    self.assertTrue(told == room)
                    self.assertTrue(told.marks() == room.marks())
                    self.is_just(told.log(), log[:many])
                    self.is_just(look_at_room(told, MOMENTS), look_at_room(room, MOMENTS))
                self.made_or_refused(sample(), number, log)
                for _ in range(10):
                    rows = list(log)
                    row = rows.pop(chance.randrange(len(rows))) if rows else ("over", 3)
                    rows.insert(chance.randint(0, len(rows)), row)
                    self.made_or_refused(sample(), number, rows)

    def test_the_largest_in_time(self):
        rows = [("chosen", "fill", 1)] * 999 + [("did", (0, number), 2, 10) for number in range(1, 1000)]
        began = time.perf_counter()
        room = room_of(sample(), 0, rows)
        self.assertTrue(room == drill(sample(), 0, room.log()))
        self.assertLess(time.perf_counter() - began, 3)


class DrillTest(PanelCase):
    def test_none_some_and_all(self):
        for many in range(len(LOG) + 1):
            room = drill(sample(), 0, LOG, many)
            self.assertTrue(room == room_of(sample(), 0, LOG[:many]))
            self.is_just(room.log(), LOG[:many])
            self.assertTrue(drill(many=many, log=tuple(LOG), number=0, works=sample()) == room)
        for told in (drill(sample(), 0, LOG), drill(sample(), 0, LOG, None), drill(sample(), 0, LOG, many=None)):
            self.assertTrue(told == room_of(sample(), 0, LOG))
        self.assertTrue(drill(sample(), 1, []) == drill(sample(), 1, [], 0))

    def test_goes_its_own_way(self):
        plant = deeds.plant_that_did(sample(), [("choose", 0, "fill"), ("wait", 5), ("do", 0, (0, 1))])
        ahead = plant.marks()
        room = drill(plant.works(), 0, plant.room(0).log(), 1)
        room.do((0, 1), 3)
        room.take_over(9)
        self.is_just(room.state((0, 1), 3), "asked")
        self.is_just(plant.marks(), ahead)
        self.assertTrue(drill(plant.works(), 0, plant.room(0).log()) == plant.room(0))
        rows = list(LOG)
        room = drill(sample(), 0, rows)
        room.take_over(50)
        self.is_just(rows, LOG)

    def test_refused(self):
        numbers = [*[thing for thing in others() if thing is not None and not whole(0, len(LOG))(thing)], True, -1, 17]
        self.look_at_arguments(
            lambda **named: drill(**named).marks(), ("works", sample(), NO_WORKS, NoWorks),
            ("number", 0, NO_ROOMS, NoRoom), ("log", LOG, NO_LOGS, NoLog), ("many", 3, numbers, NoNumber),
        )
        # It is the whole log that is looked at, ahead of how many.
        for many in (0, 3, None, -1, "3", len(LOG) + 2):
            self.refused(NoRow, len(LOG), drill, sample(), 0, [*LOG, ("over", 3)], many)
        self.refused(NoNumber, 1, drill, sample(), 0, [], 1)
        self.refused(NoNumber, len(LOG) + 1, drill, sample(), 0, LOG, len(LOG) + 1)


if __name__ == "__main__":
    unittest.main()
