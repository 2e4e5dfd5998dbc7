"""Tests of what makes no works: point 22, and the bounds of point 21."""

import itertools
import unittest

from panelwatch.errors import (
    NoCauses, NoCommands, NoPoint, NoPoints, NoRelations, NoRule, NoRules, NoWorth, Ring, TooMany, Twice,
)
from panelwatch.works import Works
from tests.things import CAUSES, COMMANDS, POINTS, RELATIONS, RULES, PanelCase, among, name, others, whole

LISTS = {"points": POINTS, "rules": RULES, "causes": CAUSES, "commands": COMMANDS, "relations": RELATIONS}
NO_LIST = {
    "points": NoPoints, "rules": NoRules, "causes": NoCauses, "commands": NoCommands, "relations": NoRelations,
}
WORD = among("above", "below")
LEVEL = whole(0, 63)


def is_lock(thing):
    return isinstance(thing, tuple) and len(thing) == 3 and name(thing[0]) and WORD(thing[1]) and LEVEL(thing[2])


def are_locks(thing):
    return isinstance(thing, tuple) and len(thing) <= 4 and all(is_lock(lock) for lock in thing)


def are_parts(thing):
    return isinstance(thing, tuple) and 1 <= len(thing) <= 3 and all(name(part) for part in thing)


# A good tuple of each form, and of each of its things the test for what may stand there.
FORMS = [
    ("points", POINTS[0], (name, name, among("level", "switch"))),
    ("rules", RULES[0], (name, name, WORD, LEVEL, LEVEL, whole(0, 99), whole(1, 3))),
    ("causes", CAUSES[0], (name, name, whole(0, 999))),
    ("commands", COMMANDS[0], (name, name, LEVEL, are_locks)),
    ("relations", ("same", "a", "b"), (among("same", "gate"), name, name)),
    ("relations", ("sum", "a", ("b", "c")), (among("sum"), name, are_parts)),
    ("relations", ("gate", "lv", "v"), (among("same", "gate"), name, name)),
]
EDGES = [*range(-2, 5), *range(61, 67), 98, 99, 100, 101, 998, 999, 1000, 1001, "a" * 8, "a" * 9]


class ShapesTest(PanelCase):
    def refused_whole(self, kind, rows):
        """Works with these rows, and good ones else, are refused with the rows, the whole thing."""
        self.refused(NO_LIST[kind], rows, Works, **{**LISTS, kind: rows})

    def not_refused_whole(self, kind, rows):
        try:
            Works(**{**LISTS, kind: rows})
        except NO_LIST[kind] as error:
            self.fail(f"{rows} was refused with {type(error).__name__}")
        except (NoPoint, NoRule, NoWorth, Twice, TooMany, Ring, NoCauses, NoRules, NoCommands, NoRelations):
            pass

    def test_no_list(self):
        for kind in LISTS:
            for thing in others():
                if not isinstance(thing, (list, tuple)):
                    self.refused_whole(kind, thing)

    def test_no_tuples_in_it(self):
        for kind in LISTS:
            good = LISTS[kind][0]
            for thing in [*others(), list(good), good[:-1], (*good, 1), (good,), [good], {"a": good}]:
                with self.subTest(kind=kind, thing=repr(thing)[:60]):
                    self.refused_whole(kind, [thing])
                    self.refused_whole(kind, (thing, *LISTS[kind][:3]))
                    self.refused_whole(kind, [*LISTS[kind][:2], thing])
                    self.refused_whole(kind, [*LISTS[kind][:1], thing, *LISTS[kind][1:3]])

    def test_each_thing_of_each_tuple(self):
        for kind, good, tests in FORMS:
            for at, fits in enumerate(tests):
                for thing in [*others(), *EDGES]:
                    row = (*good[:at], thing, *good[at + 1:])
                    with self.subTest(kind=kind, at=at, thing=repr(thing)[:60]):
                        if fits(thing):
                            self.not_refused_whole(kind, [row])
                        else:
                            self.refused_whole(kind, [row])
                            self.refused_whole(kind, [*LISTS[kind][:2], row])

    def test_sum_has_parts_and_others_have_names(self):
        self.refused_whole("relations", [("same", "a", ("b",))])
        self.refused_whole("relations", [("gate", "a", ("s",))])
        self.refused_whole("relations", [("sum", "a", "b")])
        self.refused_whole("relations", [("sum", "a", ["b"])])
        self.refused_whole("relations", [("more", "a", "b")])

    def test_each_part_of_a_sum(self):
        for many in range(6):
            row = ("sum", "lv", ("a", "b", "c", "s", "v")[:many])
            if 1 <= many <= 3:
                self.is_just(Works(POINTS, relations=[row]).relations(), [row])
            else:
                self.refused_whole("relations", [row])
        for thing in others():
            if not name(thing):
                self.refused_whole("relations", [("sum", "lv", (thing,))])
                self.refused_whole("relations", [("sum", "lv", ("a", "b", thing))])

    def test_each_thing_of_a_lock(self):
        good = ("lv", "above", 3)
        for many in range(7):
            row = ("open", "v", 1, (good,) * many)
            if many <= 4:
                self.is_just(Works(POINTS, commands=[row]).commands(), [row])
            else:
                self.refused_whole("commands", [row])
        for at, fits in enumerate((name, WORD, LEVEL)):
            for thing in [*others(), *EDGES]:
                lock = (*good[:at], thing, *good[at + 1:])
                check = self.not_refused_whole if fits(thing) else self.refused_whole
                check("commands", [("open", "v", 1, (lock,))])
                check("commands", [("open", "v", 1, (good, good, good, lock))])
        for lock in (list(good), good[:2], (*good, 1), (good,), "lv", None, ()):
            self.refused_whole("commands", [("open", "v", 1, (good, lock))])
        self.refused_whole("commands", [("open", "v", 1, [good])])

    def test_points_are_one_to_eight(self):
        points = [(sign, "north", "level") for sign in "abcdefghij"]
        self.refused(NoPoints, (), Works, ())
        empty = []
        self.refused(NoPoints, empty, Works, empty)
        for many in range(1, 9):
            self.is_just(Works(points[:many]).points(), points[:many])
        for many in (9, 10):
            rows = points[:many]
            self.refused(NoPoints, rows, Works, rows)
        rows = points[:1] * 9
        self.refused(NoPoints, rows, Works, rows)

    def test_others_are_at_most_so_many(self):
        rules = [("r" * (at + 1), "lv", "above", 1, 0, 0, 1) for at in range(6)]
        causes = [("r" * low, "r" * high, 0) for low, high in itertools.combinations(range(1, 7), 2)]
        commands = [(sign, "v", 0, ()) for sign in "abcd"]
        relations = [("same", "a", "b")] * 5
        lists = {"rules": rules, "causes": causes[:8], "commands": commands, "relations": relations}
        extra = {"rules": ("z", "v", "above", 0, 0, 0, 1), "causes": causes[8], "commands": ("z", "v", 0, ()),
                 "relations": ("gate", "a", "s")}
        works = Works(POINTS, **lists)
        self.assertEqual([len(works.rules()), len(works.causes()), len(works.commands()), len(works.relations())],
                         [6, 8, 4, 5])
        for kind, row in extra.items():
            rows = [*lists[kind], row]
            self.refused(NO_LIST[kind], rows, Works, POINTS, **{**lists, kind: rows})
            rows = tuple(rows)
            self.refused(NO_LIST[kind], rows, Works, POINTS, **{**lists, kind: rows})

    def test_bounds_hold(self):
        least, most = ("r", "lv", "below", 0, 0, 0, 1), ("r", "lv", "above", 63, 63, 99, 3)
        for row in [least, most, ("r", "v", "above", 9, 9, 9, 2)]:
            self.is_just(Works(POINTS, rules=[row]).rules(), [row])
        for within in (0, 1, 998, 999):
            row = ("high", "low", within)
            self.is_just(Works(POINTS, rules=RULES, causes=[row]).causes(), [row])
        for row in [("c", "lv", 0, ()), ("c", "lv", 63, ()), ("c", "v", 1, (("v", "above", 63), ("lv", "below", 0)))]:
            self.is_just(Works(POINTS, commands=[row]).commands(), [row])


class FitsTest(PanelCase):
    def test_points_twice(self):
        rows = [("a", "p", "level"), ("b", "p", "level"), ("b", "q", "switch"), ("a", "p", "level")]
        self.refused(Twice, "b", Works, rows)
        self.refused(Twice, "a", Works, [rows[0], rows[3], rows[1], rows[2]])

    def test_places_are_at_most_three(self):
        for many in range(1, 9):
            rows = [("abcdefgh"[at], "stuvwxyz"[at], "level") for at in range(many)]
            if many <= 3:
                self.is_just(Works(rows).places(), list("stuvwxyz"[:many]))
            else:
                self.refused(TooMany, many, Works, rows)
        rows = [("a", "p", "level"), ("b", "q", "level"), ("c", "r", "level"), ("d", "q", "level"), ("e", "p", "level")]
        self.is_just(Works(rows).places(), ["p", "q", "r"])
        self.refused(TooMany, 4, Works, [*rows, ("f", "s", "level")])
        self.refused(Twice, "a", Works, [*rows, ("f", "s", "level"), ("a", "t", "level")])

    def test_rules_twice_and_of_no_point(self):
        good = ("r", "lv", "above", 1, 0, 0, 1)
        other = ("r", "v", "below", 2, 1, 1, 2)
        lost = ("s", "zz", "above", 1, 0, 0, 1)
        self.refused(Twice, "r", Works, POINTS, rules=[good, other])
        self.refused(NoPoint, "zz", Works, POINTS, rules=[good, lost])
        self.refused(Twice, "r", Works, POINTS, rules=[good, other, lost])
        self.refused(NoPoint, "zz", Works, POINTS, rules=[good, lost, other])
        self.refused(Twice, "r", Works, POINTS, rules=[good, ("r", "zz", "above", 1, 0, 0, 1)])
        self.refused(NoPoint, "north", Works, POINTS, rules=[("r", "north", "above", 1, 0, 0, 1)])
        self.refused(NoPoint, "high", Works, POINTS, rules=[RULES[0], ("r", "high", "above", 1, 0, 0, 1)])

    def test_causes_of_no_rules_and_twice(self):
        def refused(error, value, *causes):
            self.refused(error, value, Works, POINTS, rules=RULES, causes=causes)

        refused(NoRule, "zz", ("zz", "high", 1))
        refused(NoRule, "yy", ("high", "yy", 1))
        refused(NoRule, "zz", ("zz", "yy", 1))
        refused(NoRule, "lv", ("high", "low", 1), ("lv", "low", 1))
        refused(Twice, ("high", "low"), ("high", "low", 1), ("high", "low", 1))
        refused(Twice, ("high", "low"), ("high", "low", 1), ("low", "far", 3), ("high", "low", 2))
        refused(Twice, ("high", "low"), ("high", "low", 1), ("high", "low", 2), ("zz", "low", 2))
        refused(NoRule, "zz", ("high", "low", 1), ("zz", "low", 2), ("high", "low", 2))
        refused(Twice, ("high", "high"), ("high", "high", 1), ("high", "high", 1))
        self.refused(NoRule, "high", Works, POINTS, causes=[("high", "low", 1)])

    def test_causes_turned_about_are_not_twice_but_a_ring(self):
        causes = [("low", "high", 1), ("high", "low", 1)]
        self.refused(Ring, "high", Works, POINTS, rules=RULES, causes=causes)

    def test_rings(self):
        def refused(first, *causes):
            self.refused(Ring, first, Works, POINTS, rules=RULES, causes=causes)

        refused("low", ("low", "low", 0))
        refused("low", ("far", "low", 0), ("low", "far", 0))
        refused("high", ("shut", "high", 0), ("low", "far", 0), ("far", "shut", 0), ("high", "low", 0))
        refused("far", ("high", "far", 0), ("low", "far", 0), ("far", "shut", 0), ("shut", "far", 0))
        refused("low", ("high", "low", 0), ("low", "far", 0), ("far", "shut", 0), ("far", "low", 0))
        refused("low", ("shut", "shut", 0), ("low", "low", 0))
        refused("high", ("shut", "low", 1), ("high", "low", 1), ("shut", "shut", 1), ("high", "high", 1))

    def test_all_short_rows_of_causes(self):
        names = ["high", "low", "far"]
        pairs = list(itertools.product(names, repeat=2))
        for many in range(1, 5):
            for chosen in itertools.permutations(pairs, many) if many < 4 else itertools.combinations(pairs, many):
                causes = [(cause, effect, at) for at, (cause, effect) in enumerate(chosen)]
                first = self.first_in_a_ring(names, chosen)
                if first is None:
                    self.is_just(Works(POINTS, rules=RULES, causes=causes).causes(), causes)
                else:
                    self.refused(Ring, first, Works, POINTS, rules=RULES, causes=causes)

    def first_in_a_ring(self, names, pairs):
        """By all ways of at most three steps."""
        for first in names:
            for many in range(3):
                for between in itertools.product(names, repeat=many):
                    way = [first, *between, first]
                    if all(step in pairs for step in zip(way, way[1:])):
                        return first
        return None

    def test_long_rows_of_causes_are_no_ring(self):
        rules = [(sign, "lv", "above", 1, 0, 0, 1) for sign in "abcdef"]
        causes = [(cause, effect, 0) for cause, effect in ("ab", "bc", "cd", "de", "ef", "af", "ac")]
        works = Works(POINTS, rules=rules, causes=causes)
        self.is_just(works.causes(), causes)
        self.refused(Ring, "a", Works, POINTS, rules=rules, causes=[*causes, ("f", "a", 0)])
        self.refused(Ring, "c", Works, POINTS, rules=rules, causes=[*causes, ("f", "c", 0)])
        self.refused(Ring, "f", Works, POINTS, rules=rules, causes=[*causes, ("f", "f", 0)])

    def test_commands(self):
        def refused(error, value, *commands):
            self.refused(error, value, Works, POINTS, commands=commands)

        good, again = ("c", "v", 1, ()), ("c", "lv", 3, ())
        refused(Twice, "c", good, again)
        refused(NoPoint, "zz", ("c", "zz", 1, ()))
        refused(NoWorth, 2, ("c", "v", 2, ()))
        refused(NoWorth, 63, ("c", "w", 63, ()))
        refused(NoPoint, "zz", ("c", "v", 1, (("zz", "above", 1),)))
        refused(NoPoint, "a", ("c", "v", 1, (("lv", "above", 1), ("a", "above", 1), ("zz", "above", 1))))
        refused(NoPoint, "w", ("c", "v", 1, (("lv", "above", 1), ("w", "above", 1), ("a", "above", 1))))
        refused(NoPoint, "c", ("c", "v", 1, (("c", "above", 1),)))

    def test_commands_go_one_by_one_and_in_order(self):
        def refused(error, value, *commands):
            self.refused(error, value, Works, POINTS, commands=commands)

        good = ("c", "v", 1, ())
        refused(Twice, "c", good, ("c", "zz", 2, (("yy", "above", 1),)))
        refused(NoPoint, "zz", good, ("d", "zz", 2, (("yy", "above", 1),)))
        refused(NoWorth, 2, good, ("d", "v", 2, (("yy", "above", 1),)))
        refused(NoPoint, "yy", good, ("d", "v", 1, (("yy", "above", 1),)), good)
        refused(NoWorth, 2, good, ("d", "v", 2, ()), good)
        refused(NoPoint, "zz", good, ("d", "zz", 2, ()), good)
        refused(Twice, "c", good, good, ("d", "zz", 2, ()))

    def test_relations(self):
        def refused(error, value, *relations):
            self.refused(error, value, Works, POINTS, relations=relations)

        refused(NoPoint, "zz", ("same", "zz", "a"))
        refused(NoPoint, "zz", ("same", "a", "zz"))
        refused(NoPoint, "zz", ("same", "zz", "yy"))
        refused(NoPoint, "zz", ("gate", "zz", "yy"))
        refused(NoPoint, "yy", ("gate", "a", "yy"))
        refused(NoPoint, "zz", ("sum", "zz", ("yy",)))
        refused(NoPoint, "yy", ("sum", "a", ("b", "yy", "zz")))
        refused(NoPoint, "zz", ("sum", "a", ("b", "c", "zz")))
        refused(Twice, "a", ("same", "a", "a"))
        refused(Twice, "s", ("gate", "s", "s"))
        refused(Twice, "a", ("sum", "a", ("a",)))
        refused(Twice, "b", ("sum", "a", ("b", "b", "a")))
        refused(Twice, "a", ("sum", "a", ("b", "a", "b")))
        refused(Twice, "b", ("sum", "a", ("b", "c", "b")))
        refused(NoPoint, "b", ("gate", "a", "b"))

    def test_relations_go_one_by_one_and_in_order(self):
        def refused(error, value, *relations):
            self.refused(error, value, Works, POINTS, relations=relations)

        refused(NoPoint, "zz", ("sum", "a", ("a", "zz")))
        refused(NoPoint, "zz", ("sum", "a", ("b", "b", "zz")))
        refused(Twice, "a", ("gate", "a", "a"))
        refused(Twice, "a", ("same", "a", "a"), ("same", "zz", "a"))
        refused(NoPoint, "zz", ("same", "zz", "a"), ("same", "a", "a"))
        refused(NoPoint, "b", ("gate", "a", "b"), ("same", "a", "a"))
        refused(Twice, "a", ("same", "b", "a"), ("same", "a", "a"), ("gate", "a", "b"))

    def test_relations_alike_may_stand_together(self):
        rows = [("same", "a", "b"), ("same", "a", "b"), ("same", "b", "a"), ("gate", "s", "v"), ("sum", "s", ("v",))]
        self.is_just(Works(POINTS, relations=rows).relations(), rows)


class OrderTest(PanelCase):
    """Of two faults the one that is due first, over all that is handed in."""

    FAULTS = [
        ("points", NoPoints, None, [*POINTS, "zz"]),
        ("points", Twice, "lv", [*POINTS, ("lv", "north", "level")]),
        ("points", TooMany, 4, [*POINTS, ("d", "new", "level")]),
        ("rules", NoRules, None, [*RULES, "zz"]),
        ("rules", Twice, "high", [*RULES, RULES[0]]),
        ("rules", NoPoint, "zz", [*RULES, ("r", "zz", "above", 1, 0, 0, 1)]),
        ("causes", NoCauses, None, [*CAUSES, "zz"]),
        ("causes", NoRule, "yy", [*CAUSES, ("high", "yy", 1)]),
        ("causes", Twice, ("high", "low"), [*CAUSES, ("high", "low", 1)]),
        ("causes", Ring, "high", [*CAUSES, ("low", "high", 1)]),
        ("commands", NoCommands, None, [*COMMANDS, "zz"]),
        ("commands", Twice, "open", [*COMMANDS, COMMANDS[0]]),
        ("commands", NoPoint, "xx", [*COMMANDS, ("c", "xx", 1, ())]),
        ("commands", NoWorth, 2, [*COMMANDS, ("c", "v", 2, ())]),
        ("commands", NoPoint, "ww", [*COMMANDS, ("c", "v", 1, (("ww", "above", 1),))]),
        ("relations", NoRelations, None, [*RELATIONS, "zz"]),
        ("relations", NoPoint, "vv", [*RELATIONS, ("same", "vv", "a")]),
        ("relations", Twice, "a", [*RELATIONS, ("same", "a", "a")]),
        ("relations", NoPoint, "c", [*RELATIONS, ("gate", "a", "c")]),
    ]

    def test_faults_of_two_lists(self):
        for first, second in itertools.combinations(self.FAULTS, 2):
            kind, error, value, rows = first
            with self.subTest(first=error.__name__, second=second[1].__name__):
                self.refused(error, rows if value is None else value, Works, **{**LISTS, kind: rows})
                if kind != second[0]:
                    lists = {**LISTS, second[0]: second[3], kind: rows}
                    self.refused(error, rows if value is None else value, Works, **lists)

    def test_a_wrong_list_goes_ahead_of_its_faults(self):
        for kind, error, value, rows in self.FAULTS:
            if value is not None:
                bad = [*rows[-1:], *rows[:2], None]
                self.refused(NO_LIST[kind], bad, Works, **{**LISTS, kind: bad})

    def test_what_is_handed_in_stays(self):
        for kind, error, _, rows in self.FAULTS:
            lists = {other: list(LISTS[other]) for other in LISTS}
            lists[kind] = list(rows)
            with self.assertRaises(error):
                Works(**lists)
            self.assertEqual(lists, {**LISTS, kind: rows})


if __name__ == "__main__":
    unittest.main()
