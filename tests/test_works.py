"""Tests of panelwatch.works: what works tell (points 21 and 23), and what holds (point 24)."""

import itertools
import unittest

from panelwatch.errors import NoCommand, NoPlace, NoPoint, NoRule
from panelwatch.works import Works, is_beyond, lock_holds, relation_holds
from tests.things import (
    CAUSES, COMMANDS, POINTS, RELATIONS, RULES, PanelCase, among, others, sample, whole, wrong,
)

POINT_NAMES = [point[0] for point in POINTS]
RULE_NAMES = [rule[0] for rule in RULES]
COMMAND_NAMES = [command[0] for command in COMMANDS]
NAMED = {"rules": RULES, "causes": CAUSES, "commands": COMMANDS, "relations": RELATIONS}


class ToldTest(PanelCase):
    def test_all_five(self):
        works = sample()
        self.is_just(works.points(), POINTS)
        self.is_just(works.rules(), RULES)
        self.is_just(works.causes(), CAUSES)
        self.is_just(works.commands(), COMMANDS)
        self.is_just(works.relations(), RELATIONS)

    def test_none_where_left_out(self):
        works = Works(POINTS)
        self.is_just(works.points(), POINTS)
        for told in (works.rules(), works.causes(), works.commands(), works.relations()):
            self.is_just(told, [])
        self.assertEqual(works, Works(POINTS, rules=[], causes=[], commands=(), relations=[]))

    def test_handed_in_by_names_and_as_tuples(self):
        lists = {"points": POINTS, **NAMED}
        turned = {name: tuple(lists[name]) for name in reversed(lists)}
        self.assertEqual(Works(**turned), sample())
        self.is_just(Works(**turned).rules(), RULES)
        self.is_just(Works(points=tuple(POINTS)).points(), POINTS)

    def test_all_but_the_points_stand_behind_a_star(self):
        with self.assertRaises(TypeError):
            Works(POINTS, RULES)
        with self.assertRaises(TypeError):
            Works(rules=RULES)

    def test_what_is_handed_in_stays_and_is_kept_as_a_copy(self):
        lists = {"points": list(POINTS), **{name: list(rows) for name, rows in NAMED.items()}}
        works = Works(**lists)
        self.assertEqual(lists, {"points": POINTS, **NAMED})
        for rows in lists.values():
            rows.reverse()
            rows.pop()
        self.assertEqual(works, sample())
        self.is_just(works.points(), POINTS)
        self.is_just(works.points_at("east"), ["a", "b", "c", "s"])
        self.is_just(works.rules(), RULES)
        self.is_just(works.commands(), COMMANDS)

    def test_lists_told_are_the_askers_own(self):
        works = sample()
        asks = [
            works.points, works.rules, works.causes, works.commands, works.relations, works.places,
            lambda: works.points_at("east"), lambda: works.causes_of("far"),
        ]
        for ask in asks:
            told, again = ask(), ask()
            self.is_just(told, again)
            self.assertIs(type(told), list)
            told.clear()
            again.append("more")
            self.assertNotEqual(ask(), told)
            self.assertNotEqual(ask(), again)
        self.assertEqual(works, sample())

    def test_places_rise(self):
        self.is_just(sample().places(), ["dam", "east", "north"])
        self.is_just(Works([("a", "z", "level"), ("z", "a", "switch")]).places(), ["a", "z"])

    def test_tuples_by_names(self):
        works = sample()
        for point in POINTS:
            self.is_just(works.point(point[0]), point)
            self.is_just(works.point(name=point[0]), point)
        for rule in RULES:
            self.is_just(works.rule(rule[0]), rule)
            self.is_just(works.rule(name=rule[0]), rule)
        for command in COMMANDS:
            self.is_just(works.command(command[0]), command)
            self.is_just(works.command(name=command[0]), command)

    def test_points_of_a_place_in_their_order(self):
        works = Works([("z", "q", "level"), ("b", "p", "switch"), ("a", "q", "switch"), ("y", "q", "level")])
        self.is_just(works.points_at("q"), ["z", "a", "y"])
        self.is_just(works.points_at(place="p"), ["b"])

    def test_causes_of_a_rule_in_order(self):
        works = sample()
        self.is_just(works.causes_of("far"), [("shut", "far", 0), ("high", "far", 999), ("low", "far", 7)])
        self.is_just(works.causes_of("low"), [("high", "low", 20)])
        self.is_just(works.causes_of("high"), [])
        self.is_just(works.causes_of(rule="shut"), [])

    def test_wrong_names(self):
        works = sample()
        no_points = wrong(among(*POINT_NAMES))
        self.look_at_arguments(works.point, ("name", "lv", no_points, NoPoint))
        self.look_at_arguments(works.rule, ("name", "low", wrong(among(*RULE_NAMES)), NoRule))
        self.look_at_arguments(works.command, ("name", "open", wrong(among(*COMMAND_NAMES)), NoCommand))
        self.look_at_arguments(works.points_at, ("place", "dam", wrong(among("north", "east", "dam")), NoPlace))
        self.look_at_arguments(works.causes_of, ("rule", "far", wrong(among(*RULE_NAMES)), NoRule))
        self.look_at_arguments(works.is_worth, ("point", "lv", no_points, NoPoint), ("thing", 3, [], None))
        for thing in others():
            self.refused(NoPoint, "high", works.is_worth, "high", thing)

    def test_names_of_one_kind_are_none_of_another(self):
        works = Works([("p", "q", "level")], rules=[("r", "p", "above", 1, 0, 0, 1)], commands=[("c", "p", 0, ())])
        asks = {"p": works.has_point, "q": works.has_place, "r": works.has_rule, "c": works.has_command}
        for name, (owner, ask) in itertools.product(asks, asks.items()):
            self.assertIs(ask(name), name == owner)
        same = Works([("x", "x", "level")], rules=[("x", "x", "above", 1, 0, 0, 1)], commands=[("x", "x", 0, ())])
        self.is_just(same.point("x"), ("x", "x", "level"))
        self.is_just(same.rule("x"), ("x", "x", "above", 1, 0, 0, 1))
        self.is_just(same.command("x"), ("x", "x", 0, ()))
        self.is_just(same.points_at("x"), ["x"])

    def test_whether_a_thing_is_a_name(self):
        works = sample()
        asks = [
            (works.has_point, POINT_NAMES), (works.has_place, ["north", "east", "dam"]),
            (works.has_rule, RULE_NAMES), (works.has_command, COMMAND_NAMES),
        ]
        for ask, names in asks:
            for thing in [*others(), *names, *[[name] for name in names], *[(name,) for name in names]]:
                with self.subTest(ask=ask.__name__, thing=repr(thing)[:60]):
                    self.assertIs(ask(thing), among(*names)(thing))
                    self.assertIs(ask(thing=thing), among(*names)(thing))

    def test_worths_of_a_point(self):
        works = sample()
        for thing in [*others(), *range(-2, 67)]:
            self.assertIs(works.is_worth("lv", thing), whole(0, 63)(thing))
            self.assertIs(works.is_worth("v", thing), whole(0, 1)(thing))
            self.assertIs(works.is_worth(thing=thing, point="w"), whole(0, 1)(thing))

    def test_greatest_works(self):
        points = [("abcdefgh"[:at + 1], "xyz"[at % 3] * 8, "level") for at in range(8)]
        rules = [("r" * (at + 1), "a", "above", 63, 63, 99, 3) for at in range(6)]
        causes = [("r" * low, "r" * high, 999) for low, high in itertools.combinations(range(1, 7), 2)][:8]
        locks = tuple(("a", "below", 63) for _ in range(4))
        commands = [("c" * (at + 5), "a", 63, locks) for at in range(4)]
        relations = [("sum", "a", ("ab", "abc", "abcd"))] * 5
        works = Works(points, rules=rules, causes=causes, commands=commands, relations=relations)
        self.is_just(works.points(), points)
        self.is_just(works.places(), ["x" * 8, "y" * 8, "z" * 8])
        self.is_just(works.rules(), rules)
        self.is_just(works.causes(), causes)
        self.is_just(works.commands(), commands)
        self.is_just(works.relations(), relations)


class EqualTest(PanelCase):
    def test_equal_are_works_that_tell_the_same_five(self):
        self.assertTrue(sample() == sample())
        self.assertFalse(sample() != sample())
        self.assertTrue(sample() == Works(tuple(POINTS), **{name: tuple(rows) for name, rows in NAMED.items()}))

    def test_unequal_where_one_of_the_five_is_left_out(self):
        for name in ("causes", "commands", "relations"):
            self.assertFalse(Works(POINTS, **{**NAMED, name: ()}) == sample())
            self.assertTrue(Works(POINTS, **{**NAMED, name: ()}) != sample())
        # Without rules there are no causes: what has the rules alone stands beside what has neither.
        self.assertFalse(Works(POINTS, rules=RULES) == Works(POINTS))
        self.assertFalse(Works([*POINTS, ("d", "east", "level")], **NAMED) == sample())

    def test_unequal_where_one_stands_otherwise(self):
        for name in NAMED:
            self.assertFalse(Works(POINTS, **{**NAMED, name: NAMED[name][::-1]}) == sample())
        self.assertFalse(Works(POINTS[::-1], **NAMED) == sample())
        rows = [("high", "lv", "above", 40, 5, 3, 2), *RULES[1:]]
        self.assertFalse(Works(POINTS, **{**NAMED, "rules": rows}) == sample())
        rows = [*CAUSES[:-1], ("low", "far", 8)]
        self.assertFalse(Works(POINTS, **{**NAMED, "causes": rows}) == sample())
        self.assertFalse(Works([("p", "q", "level")]) == Works([("p", "q", "switch")]))

    def test_equals_nothing_of_another_kind(self):
        for thing in [*others(), POINTS, (POINTS, RULES, CAUSES, COMMANDS, RELATIONS)]:
            if not isinstance(thing, Works):
                self.assertFalse(sample() == thing)
                self.assertTrue(sample() != thing)
                self.assertFalse(thing == sample())

    def test_shown_as_a_text(self):
        self.assertIs(type(repr(sample())), str)


class HoldsTest(PanelCase):
    def test_beyond(self):
        for limit, worth in itertools.product(range(64), repeat=2):
            self.assertIs(is_beyond("above", limit, worth), worth > limit)
            self.assertIs(is_beyond("below", limit, worth), worth < limit)
        self.assertIs(is_beyond(worth=4, limit=3, word="above"), True)

    def test_locks(self):
        for limit, worth in itertools.product((0, 1, 2, 62, 63), (0, 1, 2, 3, 61, 62, 63)):
            worths = {"b": 63 - worth, "a": worth}
            self.assertIs(lock_holds(("a", "above", limit), worths), worth > limit)
            self.assertIs(lock_holds(worths=worths, lock=("a", "below", limit)), worth < limit)
            self.assertIs(lock_holds(("a", "above", limit), {"b": worth}), False)
            self.assertIs(lock_holds(("a", "below", limit), {}), False)

    def test_same(self):
        for one, other in itertools.product((0, 1, 5, 63), repeat=2):
            self.assertIs(relation_holds(("same", "a", "b"), {"a": one, "b": other, "c": 9}), one == other)

    def test_sum(self):
        for total, one, two, three in itertools.product((0, 1, 2, 3, 62, 63), repeat=4):
            worths = {"t": total, "a": one, "b": two, "c": three}
            self.assertIs(relation_holds(("sum", "t", ("a",)), worths), total == one)
            self.assertIs(relation_holds(("sum", "t", ("a", "b")), worths), total == one + two)
            self.assertIs(relation_holds(("sum", "t", ("a", "b", "c")), worths), total == one + two + three)

    def test_gate(self):
        for flow, valve in itertools.product((0, 1, 2, 63), (0, 1)):
            held = relation_holds(worths={"f": flow, "v": valve}, relation=("gate", "f", "v"))
            self.assertIs(held, valve == 1 or flow == 0)

    def test_none_where_a_point_is_not_there(self):
        relations = [("same", "a", "b"), ("gate", "a", "b"), ("sum", "a", ("b", "c", "d")), ("sum", "a", ("b",))]
        for relation, worth in itertools.product(relations, (0, 1)):
            names = "abcd"[:2 if len(relation[2]) < 3 else 4]
            for lacking in itertools.product((True, False), repeat=len(names)):
                worths = {name: worth for name, lacks in zip(names, lacking) if not lacks}
                told = relation_holds(relation, worths)
                if any(lacking):
                    self.assertIsNone(told)
                else:
                    self.assertIs(told, relation[0] == "gate" or worth == 0 or len(names) == 2)

    def test_what_is_handed_in_stays(self):
        worths = {"a": 3, "b": 3}
        for _ in range(2):
            self.assertIs(relation_holds(("same", "a", "b"), worths), True)
            self.assertIs(lock_holds(("a", "above", 2), worths), True)
            self.assertIs(lock_holds(("z", "above", 2), worths), False)
            self.assertIsNone(relation_holds(("same", "a", "z"), worths))
        self.assertEqual(worths, {"a": 3, "b": 3})


if __name__ == "__main__":
    unittest.main()
