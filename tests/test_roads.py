"""Tests of panelwatch.roads: point 33."""

import itertools
import random
import unittest

from panelwatch.errors import NoLetter, NoPlace, NotOnRoad, NoWorks
from panelwatch.letters import is_letter
from panelwatch.roads import Road
from panelwatch.works import Works
from tests.chances import other_works
from tests.things import PanelCase, among, others, sample, wrong

SIGNS = ("signs", "north", 2, 7, ((3, "lv", 40, "good"), (7, "v", 1, "odd")))
LETTERS = [
    SIGNS, ("signs", "dam", 1, 0, ()), ("do", (4, 1), "open"), ("back", (4, 1)), ("term", 5),
    ("terms", "north", 5, 30), ("answer", "east", (4, 1), "refused", 5, 30),
]
ENDS = ["north", "east", "dam", 0, 1]


def is_end(thing):
    return among("north", "east", "dam")(thing) or (type(thing) is int and thing in (0, 1))


def road_of(*rows):
    road = Road(sample())
    for row in rows:
        road.put(*row)
    return road


def look(road):
    return road.numbers(), road.under_way(), len(road), road.copied().put(0, 1, SIGNS)


class PutTest(PanelCase):
    def test_none_at_first(self):
        road = Road(sample())
        self.is_just(road.numbers(), [])
        self.is_just(road.under_way(), [])
        self.assertEqual(len(road), 0)
        for goal in ENDS:
            self.is_just(road.bound_for(goal), [])

    def test_all_letters_from_and_to_all_ends(self):
        road = Road(sample())
        rows = []
        for start, goal, letter in itertools.product(ENDS, ENDS, LETTERS):
            number = road.put(start, goal, letter)
            rows.append((len(rows) + 1, start, goal, letter))
            self.is_just(number, len(rows))
        self.is_just(road.under_way(), rows)
        self.is_just(road.numbers(), [row[0] for row in rows])
        self.assertEqual(len(road), len(rows))
        for goal in ENDS:
            self.is_just(road.bound_for(goal), [row[0] for row in rows if row[2] == goal])
        for number, *row in rows:
            self.is_just(road.letter(number), tuple(row))

    def test_refused(self):
        def put(**named):
            road = road_of((0, "north", LETTERS[2]))
            ahead = look(road)
            try:
                return road.put(**named)
            except (NoPlace, NoLetter):
                self.assertEqual(look(road), ahead)
                raise

        no_letters = [thing for thing in [*others(), list(SIGNS), ("term", True), ("do", (4, 1), "lv")]
                      if not is_letter(sample(), thing)]
        self.look_at_arguments(
            put, ("start", "north", wrong(is_end), NoPlace), ("goal", 1, wrong(is_end), NoPlace),
            ("letter", SIGNS, no_letters, NoLetter),
        )
        self.look_at_arguments(
            lambda **named: Road(**named).under_way(),
            ("works", sample(), wrong(lambda thing: isinstance(thing, Works)), NoWorks),
        )

    def test_places_of_the_road_s_works_alone(self):
        road = Road(Works([("p", "far", "level")]))
        self.refused(NoPlace, "north", road.put, 0, "north", ("term", 1))
        self.refused(NoLetter, SIGNS, road.put, 0, "far", SIGNS)
        self.assertEqual(road.put("far", "far", ("term", 1)), 1)


class ByNumberTest(PanelCase):
    def test_take(self):
        road = road_of((0, "north", LETTERS[2]), ("dam", 1, LETTERS[1]))
        self.is_just(road.take(1), (0, "north", LETTERS[2]))
        self.is_just(road.under_way(), [(2, "dam", 1, LETTERS[1])])
        self.assertEqual(road.put(0, 1, SIGNS), 3)
        self.is_just(road.take(number=3), (0, 1, SIGNS))
        self.assertEqual(road.put(0, 1, SIGNS), 4)

    def test_lose(self):
        road = road_of((0, "north", LETTERS[2]), ("dam", 1, LETTERS[1]))
        self.assertIs(road.lose(2), None)
        self.is_just(road.under_way(), [(1, 0, "north", LETTERS[2])])
        self.assertIs(road.lose(number=1), None)
        self.assertEqual(len(road), 0)
        self.assertEqual(road.put(0, 1, SIGNS), 3)

    def test_double(self):
        road = road_of((0, "north", LETTERS[2]), ("dam", 1, LETTERS[1]))
        self.is_just(road.double(1), 3)
        self.is_just(road.double(number=3), 4)
        self.is_just(road.under_way(), [
            (1, 0, "north", LETTERS[2]), (2, "dam", 1, LETTERS[1]), (3, 0, "north", LETTERS[2]),
            (4, 0, "north", LETTERS[2]),
        ])
        self.is_just(road.bound_for("north"), [1, 3, 4])

    def test_letter_stays(self):
        road = road_of((0, "north", LETTERS[2]))
        for _ in range(2):
            self.is_just(road.letter(number=1), (0, "north", LETTERS[2]))
        self.assertEqual(len(road), 1)

    def test_not_on_road(self):
        for name in ("take", "lose", "double", "letter"):
            for thing in [*others(), 4, 5, (2,), "2", [2]]:
                if type(thing) is int and thing == 2:
                    continue
                road = road_of((0, "north", SIGNS), (0, 1, SIGNS), (1, 0, SIGNS))
                road.take(1)
                road.lose(3)
                with self.subTest(name=name, thing=repr(thing)[:60]):
                    self.stays(lambda: look(road), NotOnRoad, thing, getattr(road, name), thing)
            road = road_of((0, "north", SIGNS), (0, 1, SIGNS))
            self.stays(lambda: look(road), NotOnRoad, True, getattr(road, name), True)
            self.refused(NotOnRoad, 1, getattr(Road(sample()), name), 1)

    def test_bound_for_anything(self):
        road = road_of(*[(0, goal, SIGNS) for goal in ENDS])
        for thing in others():
            many = ENDS.index(thing) + 1 if is_end(thing) else None
            self.is_just(road.bound_for(thing), [] if many is None else [many])
        self.is_just(road.bound_for(goal=1), [5])
        for thing in (True, False, 2, "lv", [0], (1,)):
            self.is_just(road.bound_for(thing), [])


class EqualTest(PanelCase):
    def test_whatever_the_numbers(self):
        rows = [(0, "north", LETTERS[2]), ("dam", 1, SIGNS), ("dam", 1, SIGNS), (1, 0, ("term", 3))]
        one = road_of(*rows)
        for turned in itertools.permutations(rows):
            self.assertTrue(one == road_of(*turned))
            self.assertFalse(one != road_of(*turned))
        other = road_of((0, 0, SIGNS), *rows)
        self.assertFalse(one == other)
        other.lose(1)
        self.assertTrue(one == other)
        self.assertFalse(one.numbers() == other.numbers())

    def test_as_many(self):
        one, other = (0, "north", SIGNS), (1, "north", SIGNS)
        self.assertFalse(road_of(one) == road_of(one, one))
        self.assertFalse(road_of(one, one, other) == road_of(one, other, other))
        self.assertFalse(road_of(one) == road_of(other))
        self.assertFalse(road_of(one) == road_of((0, "dam", SIGNS)))
        self.assertFalse(road_of(one) == road_of(("north", 0, SIGNS)))
        self.assertFalse(road_of(one) == road_of((0, "north", ("signs", "north", 2, 7, ()))))
        self.assertFalse(road_of(one) == road_of())

    def test_works(self):
        self.assertTrue(Road(sample()) == Road(sample()))
        for works in other_works():
            self.assertFalse(Road(sample()) == Road(works))

    def test_other_kinds(self):
        for thing in others():
            if not isinstance(thing, Road):
                self.assertFalse(road_of((0, 1, SIGNS)) == thing)
                self.assertFalse(Road(sample()) == thing)
        self.assertIs(type(repr(road_of((0, 1, SIGNS)))), str)


class CopyTest(PanelCase):
    def test_goes_its_own_way(self):
        road = road_of((0, 1, SIGNS), (1, 0, SIGNS), (0, 0, SIGNS))
        road.lose(3)
        copy = road.copied()
        self.assertTrue(road == copy)
        self.assertEqual(copy.put(0, 1, ("term", 1)), 4)
        copy.lose(1)
        self.is_just(road.numbers(), [1, 2])
        self.is_just(copy.numbers(), [2, 4])
        self.assertEqual(road.put(0, 1, ("term", 2)), 4)
        self.is_just(copy.letter(4), (0, 1, ("term", 1)))

    def test_told_anew(self):
        road = road_of((0, 1, SIGNS), (1, 0, SIGNS))
        for ask in (road.numbers, road.under_way, lambda: road.bound_for(1)):
            self.told_anew(ask)


class AllDeedsTest(PanelCase):
    def test_by_chance(self):
        chance = random.Random(33)
        for _ in range(60):
            road, rows, last = Road(sample()), {}, 0
            for _ in range(60):
                deed = chance.choice(("put", "put", "take", "lose", "double"))
                number = chance.choice([0, 1, last, last + 1, *rows])
                if deed == "put":
                    row = (chance.choice(ENDS), chance.choice(ENDS), chance.choice(LETTERS))
                    last += 1
                    rows[last] = row
                    self.assertEqual(road.put(*row), last)
                elif number not in rows:
                    self.refused(NotOnRoad, number, getattr(road, deed), number)
                elif deed == "double":
                    last += 1
                    rows[last] = rows[number]
                    self.assertEqual(road.double(number), last)
                else:
                    told = getattr(road, deed)(number)
                    row = rows.pop(number)
                    self.is_just(told, row if deed == "take" else None)
                self.is_just(road.under_way(), [(number, *rows[number]) for number in sorted(rows)])
                self.assertEqual(len(road), len(rows))
            self.assertTrue(road == road_of(*rows.values()))


if __name__ == "__main__":
    unittest.main()
