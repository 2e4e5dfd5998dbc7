"""Tests of panelwatch.plant: points 111 to 113; of whole histories of deeds see tests/test_histories.py."""

import itertools
import random
import unittest

from panelwatch.errors import (
    Down, Locked, NoCommand, NoId, NoLetter, NoMark, NoNumber, NoPlace, NoPoint, NoRoom, NoRule, NoTime, NotNow,
    NotOnRoad, NotThere, NoWorks, NoWorth, Stands, TooMany,
)
from panelwatch.places import Place
from panelwatch.plant import Plant
from panelwatch.rooms import Room, room_of
from panelwatch.works import Works
from tests import deeds
from tests.chances import other_works
from tests.models import look_at_plant
from tests.test_places import atoms
from tests.test_rooms import NO_COMMANDS, NO_IDS, NO_POINTS, NO_ROOMS, NO_RULES, NO_TIMES, NO_WORKS
from tests.things import POINTS, PanelCase, among, others, sample, whole, wrong

NO_PLACES = wrong(among("north", "east", "dam"))
MOMENTS = (0, 5, 40)
# A row of deeds, each of which can be done behind those ahead of it, and what it tells.
ROW = [
    (("wait", 3), None), (("change", "lv", 46, "good"), None), (("change", "v", 0, "odd"), None),
    (("send", "north"), None), (("come", 1), True), (("double", 2), 3), (("lose", 2), None), (("come", 3), True),
    (("choose", 0, "open"), (0, 1)), (("choose", 0, "fill"), (0, 2)), (("do", 0, (0, 1)), None), (("wait", 4), None),
    (("come", 4), True), (("again", 0, (0, 1)), None), (("come", 5), True), (("come", 6), True),
    (("back", 0, (0, 2)), None), (("take_over", 1), None), (("come", 10), True), (("hand", 1, "a", 9, 5, 30), None),
    (("unhand", 1, "a"), None), (("shelve", 1, "high", 5, 60), None), (("unshelve", 1, "high"), None),
    (("fall", 0), None), (("come", 11), False), (("rise", 0), None), (("come", 12), False),
]


def look(plant):
    return look_at_plant(plant, MOMENTS), plant.marks()


def row_of(*rows, works=None):
    return deeds.plant_that_did(works or sample(), rows)


def refusing(name, *ahead):
    """A deed by its name, of a new plant each time behind some deeds; where it is refused, nothing has changed."""
    def deed(**named):
        plant = row_of(*ahead)
        before = look(plant)
        try:
            return getattr(plant, name)(**named), look(plant)
        except (ValueError, LookupError):
            assert look(plant) == before
            raise

    return deed


class NewTest(PanelCase):
    def test_at_first(self):
        plant = Plant(works=sample())
        self.assertEqual(plant.works(), sample())
        self.is_just((plant.now(), plant.under_way(), plant.deeds()), (0, [], []))
        for name in ("north", "east", "dam"):
            self.assertTrue(plant.place(name) == Place(sample(), name))
        for number in (0, 1):
            self.assertTrue(plant.room(number) == Room(sample(), number))
            self.assertIs(plant.stands(number), True)

    def test_refused(self):
        self.look_at_arguments(lambda **named: Plant(**named).marks(), ("works", sample(), NO_WORKS, NoWorks))
        plant = Plant(sample())
        self.look_at_arguments(plant.place, ("name", "east", NO_PLACES, NoPlace))
        self.look_at_arguments(plant.room, ("number", 1, NO_ROOMS, NoRoom))
        self.look_at_arguments(plant.stands, ("room", 1, NO_ROOMS, NoRoom))

    def test_copies_of_places_and_rooms(self):
        plant = row_of(("change", "lv", 5, "good"), ("choose", 0, "fill"))
        ahead = look(plant)
        plant.place("north").send(9)
        plant.place("north").change("lv", 6, 9)
        plant.room(0).take_over(9)
        plant.room(0).do((0, 1), 9)
        plant.room(1).hand("lv", 1, 0, 9, 9)
        self.assertEqual(look(plant), ahead)


class DeedsTest(PanelCase):
    def test_a_row_of_all(self):
        plant = Plant(sample())
        for many, (deed, told) in enumerate(ROW):
            self.is_just(plant.deeds(), [row[0] for row in ROW[:many]])
            self.is_just(deeds.do(plant, deed), told)
        self.is_just(plant.place("north").done(), [((0, 1), "open", 7)])
        self.is_just(plant.room(0).state((0, 1), 7), "done")
        self.is_just(plant.room(1).knows(), 1)
        self.assertTrue(plant == row_of(*plant.deeds()))
        self.is_just(row_of(*plant.deeds()).deeds(), plant.deeds())

    def test_wait(self):
        plant = Plant(sample())
        for many, now in ((1, 1), (10, 11), (9987, 9998)):
            self.assertIs(plant.wait(many=many), None)
            self.is_just(plant.now(), now)
        for many in (2, 3, 9999, 0, -1):
            self.stays(lambda: look(plant), NoNumber, many, plant.wait, many)
        plant.wait(1)
        self.is_just(plant.now(), 9999)
        self.stays(lambda: look(plant), NoNumber, 1, plant.wait, 1)
        plant = Plant(sample())
        self.stays(lambda: look(plant), NoNumber, 10000, plant.wait, 10000)
        plant.wait(9999)
        self.look_at_arguments(refusing("wait"), ("many", 9999, wrong(whole(1, 9999)), NoNumber))

    def test_change(self):
        plant = row_of(("wait", 3))
        self.assertIs(plant.change("lv", 5), None)
        self.assertIs(plant.change(mark="odd", worth=1, point="v"), None)
        plant.change("lv", 5)
        self.is_just(plant.place("north").waiting(), [(3, "lv", 5, "good"), (3, "v", 1, "odd")])
        # The deed is done where nothing is otherwise, too; the mark is told always.
        self.is_just(plant.deeds()[1:], [("change", "lv", 5, "good"), ("change", "v", 1, "odd"),
                                         ("change", "lv", 5, "good")])
        marks = ("mark", "odd", wrong(among("good", "odd")), NoMark)
        worths = wrong(whole(0, 63))
        self.look_at_arguments(refusing("change"), ("point", "a", NO_POINTS, NoPoint), ("worth", 63, worths, NoWorth),
                               marks)
        worths = [*wrong(whole(0, 1)), True]
        self.look_at_arguments(refusing("change"), ("point", "w", NO_POINTS, NoPoint), ("worth", 1, worths, NoWorth),
                               marks)

    def test_send(self):
        plant = row_of(("wait", 3), ("change", "lv", 5, "good"), ("wait", 1))
        self.assertIs(plant.send("north"), None)
        letter = ("signs", "north", 1, 4, ((3, "lv", 5, "good"),))
        self.is_just(plant.under_way(), [(1, "north", 0, letter), (2, "north", 1, letter)])
        plant.send(place="dam")
        self.is_just(plant.under_way()[2:], [(3, "dam", 0, ("signs", "dam", 1, 4, ())),
                                             (4, "dam", 1, ("signs", "dam", 1, 4, ()))])
        self.is_just(plant.place("north").waiting(), [])
        self.look_at_arguments(refusing("send"), ("place", "east", NO_PLACES, NoPlace))

    def test_twelve_signs(self):
        rows = [("change", "lv", at + 1, "good") for at in range(12)]
        plant = row_of(*rows, ("send", "north"), ("come", 1))
        self.assertEqual(len(plant.room(0).hearing().letters()[0][4]), 12)

    def test_more_signs_than_the_road_bears(self):
        plant = row_of(*[("change", "lv", at + 1, "good") for at in range(13)])
        ahead = look(plant)
        with self.assertRaises(NoLetter):
            plant.send("north")
        self.assertEqual(look(plant), ahead)

    def test_come_to_a_room(self):
        plant = row_of(("wait", 2), ("send", "dam"), ("send", "dam"), ("double", 1))
        self.assertIs(plant.come(3), True)
        self.is_just(plant.room(0).hearing().lacking("dam"), [1])
        self.assertIs(plant.come(number=1), True)
        self.assertIs(plant.come(5), False)
        self.is_just(plant.room(0).hearing().known("dam"), 2)
        self.is_just(plant.room(0).log(), [
            ("heard", ("signs", "dam", 2, 2, ()), 2), ("heard", ("signs", "dam", 1, 2, ()), 2),
        ])
        self.is_just(plant.room(1).log(), [])
        self.is_just([row[0] for row in plant.under_way()], [2, 4])

    def test_come_to_a_place(self):
        plant = row_of(("choose", 0, "fill"), ("do", 0, (0, 1)), ("wait", 4))
        self.is_just(plant.under_way(), [(1, 0, "east", ("do", (0, 1), "fill"))])
        self.assertIs(plant.come(1), True)
        answer = ("answer", "east", (0, 1), "done", 0, 4)
        self.is_just(plant.under_way(), [(2, "east", 0, answer), (3, "east", 1, answer)])
        self.is_just(plant.place("east").worth("a"), 63)
        self.assertIs(plant.come(3), True)
        self.is_just(plant.room(1).knows(), 0)
        self.assertIs(plant.come(2), True)
        self.is_just(plant.room(0).ids(4), [((0, 1), "fill", "done")])

    def test_lose_and_double(self):
        plant = row_of(("send", "dam"))
        self.is_just(plant.double(number=1), 3)
        self.is_just(plant.double(3), 4)
        self.assertIs(plant.lose(number=4), None)
        self.is_just(plant.double(2), 5)
        letter = ("signs", "dam", 1, 0, ())
        self.is_just(plant.under_way(), [(1, "dam", 0, letter), (2, "dam", 1, letter), (3, "dam", 0, letter),
                                         (5, "dam", 1, letter)])

    def test_not_on_road(self):
        ahead = [("send", "dam"), ("double", 1), ("lose", 2)]
        for name in ("come", "lose", "double"):
            things = [*wrong(lambda thing: type(thing) is int and thing in (1, 3)), True, 2, 4]
            self.look_at_arguments(refusing(name, *ahead), ("number", 3, things, NotOnRoad))

    def test_letters_of_a_room(self):
        plant = row_of(("choose", 0, "fill"), ("choose", 0, "open"), ("choose", 0, "fill"))
        for deed in (("do", 0, (0, 1)), ("do", 0, (0, 2)), ("again", 0, (0, 1)), ("back", 0, (0, 2)),
                     ("back", 0, (0, 3)),
                     ("take_over", 0), ("take_over", 1)):
            self.assertIs(deeds.do(plant, deed), None)
        self.is_just([row[1:] for row in plant.under_way()], [
            (0, "east", ("do", (0, 1), "fill")), (0, "north", ("do", (0, 2), "open")),
            (0, "east", ("do", (0, 1), "fill")), (0, "north", ("back", (0, 2))),
            *[(0, place, ("term", 2)) for place in ("dam", "east", "north")],
            *[(1, place, ("term", 1)) for place in ("dam", "east", "north")],
        ])
        self.is_just(plant.room(0).ids(0)[2], ((0, 3), "fill", "dropped"))

    def test_the_wait_is_ten(self):
        plant = row_of(("choose", 0, "fill"), ("do", 0, (0, 1)))
        self.is_just(plant.room(0).log()[-1], ("did", (0, 1), 0, 10))

    def test_a_room_s_deeds_are_told_and_refused_as_its_own(self):
        chance = random.Random(112)
        for _ in range(60):
            plant = row_of(*deeds.some_deeds(chance, sample(), 40))
            deed = deeds.draw(chance, plant)
            word, *things = deed
            if word not in ("choose", "take_over", "do", "again", "back", "hand", "unhand", "shelve", "unshelve"):
                continue
            room = plant.room(things[0])
            if not plant.stands(things[0]):
                self.stays(lambda: look(plant), Down, things[0], deeds.do, plant, deed)
                continue
            try:
                getattr(room, word)(*things[1:], plant.now())
            except (ValueError, LookupError) as error:
                with self.assertRaises(type(error)):
                    deeds.do(plant, deed)
            else:
                deeds.do(plant, deed)
            self.assertTrue(plant.room(things[0]) == room)
            self.is_just(plant.room(things[0]).log(), room.log())


class RoomDeedsTest(PanelCase):
    AHEAD = [("wait", 5), ("choose", 0, "fill"), ("choose", 0, "open"), ("do", 0, (0, 2)), ("hand", 0, "lv", 5, 0, 99),
             ("shelve", 0, "high", 0, 99)]
    TIMES = [("since", 4, NO_TIMES, NoTime), ("end", 9, NO_TIMES, NoTime)]
    RULE = ("rule", "high", NO_RULES, NoRule)
    # Of each deed of a room the arguments behind the room.
    REST = {
        "choose": [("command", "fill", NO_COMMANDS, NoCommand)], "take_over": [],
        "do": [("ident", (0, 1), NO_IDS, NoId)], "again": [("ident", (0, 2), NO_IDS, NoId)],
        "back": [("ident", (0, 1), NO_IDS, NoId)],
        "hand": [("point", "lv", NO_POINTS, NoPoint), ("worth", 63, wrong(whole(0, 63)), NoWorth), *TIMES],
        "unhand": [("point", "lv", NO_POINTS, NoPoint)], "shelve": [RULE, *TIMES], "unshelve": [RULE], "fall": [],
    }

    def test_refused(self):
        for name, rest in self.REST.items():
            self.look_at_arguments(refusing(name, *self.AHEAD), ("room", 0, NO_ROOMS, NoRoom), *rest)

    def test_down_ahead_of_all_else(self):
        for name, rest in self.REST.items():
            good = {row[0]: row[1] for row in rest}
            bad = {row[0]: row[2][-1] for row in rest}
            deed = refusing(name, *self.AHEAD, ("fall", 0), ("fall", 1))
            for room in (0, 1):
                for named in (good, bad):
                    self.refused(Down, room, deed, room=room, **named)
            for thing in NO_ROOMS:
                self.refused(NoRoom, thing, deed, room=thing, **bad)

    def test_what_hangs_on_the_room(self):
        plant = row_of(*self.AHEAD)
        rows = [
            (NotNow, None, ("choose", 1, "fill")), (Locked, ("v", "below", 1), ("choose", 0, "open")),
            (NotNow, (0, 2), ("do", 0, (0, 2))), (NotThere, (0, 3), ("do", 0, (0, 3))),
            (NotThere, (0, 1), ("again", 1, (0, 1))), (NotNow, (0, 1), ("again", 0, (0, 1))),
            (NotThere, (1, 1), ("back", 0, (1, 1))), (NotThere, "lv", ("unhand", 1, "lv")),
            (NotThere, "low", ("unshelve", 0, "low")), (NoTime, 3, ("hand", 0, "lv", 5, 3, 3)),
            (NoTime, 2, ("shelve", 0, "high", 3, 2)),
        ]
        plant.hand(0, "v", 1, 0, 9)
        for error, value, deed in rows:
            self.stays(lambda: look(plant), error, value, deeds.do, plant, deed)

    def test_too_many(self):
        plant = row_of(*[("shelve", 1, "low", 3, 9)] * 20)
        self.stays(lambda: look(plant), TooMany, 21, plant.shelve, 1, "low", 3, 9)
        plant = row_of(*[("take_over", room) for room in (0, 1)] * 2)
        while plant.room(0).term() < 998:
            plant.take_over(0)
            if len(plant.under_way()) > 50:
                for row in plant.under_way():
                    plant.lose(row[0])
        self.stays(lambda: look(plant), TooMany, 1000, plant.take_over, 0)

    def test_fall_and_rise(self):
        plant = row_of(*self.AHEAD, ("send", "dam"), ("send", "north"))
        ahead = plant.room(0)
        self.assertIs(plant.fall(room=0), None)
        self.is_just((plant.stands(0), plant.stands(1)), (False, True))
        # A room that fell is told as it was then.
        self.assertTrue(plant.room(0) == ahead)
        self.is_just(plant.room(0).log(), ahead.log())
        self.assertIs(plant.come(2), False)
        self.assertTrue(plant.room(0) == ahead)
        self.is_just([row[0] for row in plant.under_way()], [1, 3, 4, 5])
        self.assertIs(plant.come(1), True)
        self.assertIs(plant.come(5), True)
        self.is_just([row[0] for row in plant.under_way()], [3, 4, 6, 7])
        plant.wait(40)
        self.assertIs(plant.rise(room=0), None)
        self.assertIs(plant.stands(0), True)
        self.assertTrue(plant.room(0) == ahead)
        self.is_just(plant.room(0).log(), ahead.log())
        self.assertIs(plant.come(6), True)
        self.assertIs(plant.come(4), True)
        self.is_just(plant.room(0).ids(45)[1], ((0, 2), "open", "refused"))
        self.is_just(plant.room(0).hearing().known("north"), 5)

    def test_rise_refused(self):
        rise = refusing("rise", ("fall", 1))
        self.look_at_arguments(rise, ("room", 1, NO_ROOMS, NoRoom))
        self.refused(Stands, 0, rise, room=0)
        self.refused(Stands, 1, refusing("rise", ("fall", 1), ("rise", 1)), room=1)
        self.refused(Down, 1, refusing("fall", ("fall", 1)), room=1)


class EqualTest(PanelCase):
    def test_equal_deeds(self):
        rows = [row[0] for row in ROW]
        for many in range(len(rows) + 1):
            self.equal(row_of(*rows[:many]), row_of(*rows[:many]), True)
            if many:
                self.equal(row_of(*rows[:many]), row_of(*rows[:many - 1]), False)

    def test_otherwise_in_one_thing(self):
        rows = [("wait", 3), ("change", "lv", 5, "good"), ("send", "north"), ("come", 1), ("choose", 0, "fill"),
                ("do", 0, (0, 1)), ("hand", 1, "a", 9, 5, 30), ("shelve", 1, "high", 5, 60), ("fall", 0)]
        changes = {
            0: ("wait", 4), 1: ("change", "lv", 5, "odd"), 2: ("send", "east"), 3: ("come", 2),
            4: ("choose", 0, "drain"),
            5: ("back", 0, (0, 1)), 6: ("hand", 1, "a", 9, 5, 31), 7: ("shelve", 1, "low", 5, 60), 8: ("fall", 1),
        }
        for at, deed in changes.items():
            self.equal(row_of(*rows), row_of(*rows[:at], deed, *rows[at + 1:]), False)
        for at in (0, 1, 6, 7, 8):
            self.equal(row_of(*rows), row_of(*rows[:at], *rows[at + 1:]), False)
        self.equal(row_of(*rows), row_of(*rows, ("double", 2)), False)
        self.equal(row_of(*rows, ("double", 2)), row_of(*rows, ("double", 3)), False)
        self.equal(row_of(*rows), row_of(*rows, ("lose", 2)), False)

    def test_whatever_the_numbers_on_the_road(self):
        rows = [("send", "dam"), ("send", "north"), ("take_over", 0)]
        one = row_of(*rows)
        for order in itertools.permutations(rows):
            self.equal(row_of(*order), one, True)
        doubled = row_of(*rows, ("double", 1), ("double", 7), ("lose", 1), ("lose", 9))
        self.equal(doubled, one, True)
        self.assertNotEqual(doubled.under_way(), one.under_way())
        self.assertNotEqual(doubled.deeds(), one.deeds())

    def test_works(self):
        for works in other_works():
            self.equal(Plant(works), Plant(sample()), False)
        self.equal(Plant(Works(POINTS)), Plant(Works(POINTS[::-1])), False)
        self.equal(Plant(Works(tuple(POINTS))), Plant(Works(POINTS)), True)

    def test_other_kinds(self):
        for thing in others():
            if not isinstance(thing, Plant):
                self.assertFalse(Plant(sample()) == thing)
        self.assertIs(type(repr(Plant(sample()))), str)

    def test_marks_are_plain(self):
        plant = row_of(*[row[0] for row in ROW], ("take_over", 0))
        kinds = {type(atom) for atom in atoms(plant.marks())}
        self.assertLessEqual(kinds, {int, str, bool, type(None)})

    def test_a_copy_stands_just_so(self):
        chance = random.Random(113)
        for _ in range(20):
            plant = row_of(*deeds.some_deeds(chance, sample(), 60))
            copy, ahead = plant.copied(), look(plant)
            self.equal(plant, copy, True)
            self.assertEqual(look(copy), ahead)
            for _ in range(20):
                deed = deeds.draw(chance, copy)
                try:
                    deeds.do(copy, deed)
                except (ValueError, LookupError):
                    pass
                self.assertEqual(look(plant), ahead)
            # The other one, told the same, comes to stand just so again.
            for deed in copy.deeds()[len(plant.deeds()):]:
                deeds.do(plant, deed)
            self.assertEqual(look(plant), look(copy))

    def test_a_copy_gives_the_numbers_that_it_would_give(self):
        plant = row_of(("send", "dam"), ("lose", 1), ("lose", 2))
        copy = plant.copied()
        copy.send("dam")
        plant.send("dam")
        self.is_just([row[0] for row in copy.under_way()], [3, 4])
        self.equal(plant, copy, True)

    def test_told_anew(self):
        plant = row_of(*[row[0] for row in ROW], ("take_over", 0))
        for ask in (plant.under_way, plant.deeds):
            self.told_anew(ask)

    def test_a_room_made_of_its_log(self):
        plant = row_of(*[row[0] for row in ROW])
        for number in (0, 1):
            self.assertTrue(room_of(sample(), number, plant.room(number).log()) == plant.room(number))


if __name__ == "__main__":
    unittest.main()
