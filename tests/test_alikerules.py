"""Tests of panelwatch.alikerules: points 121 to 123."""

import itertools
import random
import unittest

from panelwatch.alikerules import alike_pairs, parting, shows_alike, step_of
from panelwatch.errors import NoList, NoNumber, NoRule, NoWorks, NoWorth, Unlike
from panelwatch.works import Works
from tests.large import in_time
from tests.test_alarms import state_by_ticks, told_by_ticks
from tests.things import PanelCase, among, others, whole, wrong

NO_WORKS = wrong(lambda thing: isinstance(thing, Works))
NO_LENGTHS = [*wrong(whole(1, 200)), True, 0, 201]
QUIET = ("quiet", 0)
STANDS = ("stands", 0)


def works_of(*rules, kind="level"):
    """Works with rules a, b, c and so on over one point: of each what stands behind its point, but its rank."""
    rows = [("abcdef"[at], "p", *rule, 1) for at, rule in enumerate(rules)]
    return Works([("p", "x", kind), ("q", "x", "switch")], rules=rows)


def two(one, other, kind="level"):
    return works_of(one, other, kind=kind)


def history(worths):
    return [(tick, worth, "good") for tick, worth in enumerate(worths)]


def parts(works, worths, names="ab"):
    """Whether worths part two rules, by the words of point 121."""
    one, other = [told_by_ticks(works.rule(name), history(worths), len(worths) - 1) for name in names]
    return one != other


def parting_by_words(works, length, candidates):
    for many in range(1, length + 1):
        for worths in itertools.product(candidates, repeat=many):
            if parts(works, worths):
                return list(worths)
    return None


def step_by_words(rule, stand, worth):
    """By the words of point 122, apart from the program."""
    _, _, word, limit, back, hold, _ = rule
    beyond = worth > limit if word == "above" else worth < limit
    rest = worth <= limit - back if word == "above" else worth >= limit + back
    if stand == STANDS:
        return (QUIET, "ended") if rest else (STANDS, None)
    many = stand[1] + 1 if beyond else 0
    if many > hold and beyond:
        return (STANDS, "raised")
    return (("waits", many), None) if beyond else (QUIET, None)


def is_stand_by_words(rule, thing):
    if type(thing) is not tuple or len(thing) != 2 or type(thing[0]) is not str or type(thing[1]) is not int:
        return False
    return thing in (QUIET, STANDS) or (thing[0] == "waits" and 1 <= thing[1] <= rule[5])


def shows_by_words(works, one, other, thing):
    rules = works.rule(one), works.rule(other)
    if type(thing) not in (list, tuple):
        return False
    for pair in thing:
        if type(pair) is not tuple or len(pair) != 2 or not all(map(is_stand_by_words, rules, pair)):
            return False
    if (QUIET, QUIET) not in thing:
        return False
    for pair in thing:
        for worth in range(64 if works.point(rules[0][1])[2] == "level" else 2):
            steps = [step_by_words(rule, stand, worth) for rule, stand in zip(rules, pair)]
            if steps[0][1] != steps[1][1] or (steps[0][0], steps[1][0]) not in thing:
                return False
    return True


def some_rule(chance, near):
    return (
        chance.choice(("above", "above", "below")), chance.choice(near), chance.choice((0, 0, 1, 2, 63)),
        chance.choice((0, 0, 1, 1, 2, 3)),
    )


class PartingTest(PanelCase):
    GOOD = ("above", 40, 5, 3)

    def test_otherwise_in_one_thing(self):
        rows = [
            (("below", 40, 5, 3), [0] * 4), (("above", 41, 5, 3), [41] * 4), (("above", 39, 5, 3), [40] * 4),
            (("above", 40, 6, 3), [41] * 4 + [35]), (("above", 40, 4, 3), [41] * 4 + [36]),
            (("above", 40, 5, 2), [41] * 3),
            (("above", 40, 5, 4), [41] * 4),
        ]
        for other, worths in rows:
            self.is_just(parting(two(self.GOOD, other), "a", "b"), worths)
            self.is_just(parting(two(other, self.GOOD), "a", "b"), worths)
            self.is_just(parting(two(self.GOOD, other), other="a", one="b"), worths)
            # By the last worth of a length, and by one worth more than a length.
            self.is_just(parting(two(self.GOOD, other), "a", "b", length=len(worths)), worths)
            self.assertIs(parting(two(self.GOOD, other), "a", "b", length=len(worths) - 1), None)

    def test_alike(self):
        rules = [
            ((self.GOOD, self.GOOD), "level"), ((("above", 63, 0, 0), ("below", 0, 9, 4)), "level"),
            ((("above", 30, 31, 2), ("above", 30, 63, 2)), "level"),
            ((("above", 1, 0, 0), ("below", 0, 0, 0)), "switch"),
            ((("below", 1, 0, 5), ("below", 1, 0, 5)), "switch"), ((("above", 0, 1, 9), ("above", 0, 63, 9)), "switch"),
            ((("below", 40, 24, 0), ("below", 40, 63, 0)), "level"),
        ]
        for (one, other), kind in rules:
            for length in (1, 8, 200):
                self.assertIs(parting(two(one, other, kind), "a", "b", length=length), None)
        self.assertIs(parting(works_of(self.GOOD), "a", "a"), None)

    def test_the_rank_counts_for_nothing(self):
        works = Works([("p", "x", "level")], rules=[("a", "p", "above", 3, 0, 1, 1), ("b", "p", "above", 3, 0, 1, 3)])
        self.assertIs(parting(works, "a", "b", length=200), None)

    def test_eight_where_the_length_is_left_out(self):
        self.is_just(parting(two(("above", 9, 0, 7), ("above", 9, 0, 8)), "a", "b"), [10] * 8)
        self.assertIs(parting(two(("above", 9, 0, 8), ("above", 9, 0, 9)), "a", "b"), None)
        self.is_just(parting(two(("above", 9, 0, 8), ("above", 9, 0, 9)), "a", "b", length=9), [10] * 9)

    def test_bounds_of_rules(self):
        rows = [
            (("above", 0, 0, 0), ("above", 63, 0, 0), [1]), (("below", 63, 0, 0), ("below", 0, 0, 0), [0]),
            (("above", 62, 63, 0), ("above", 62, 62, 0), [63, 0]),
            (("above", 62, 62, 0), ("above", 62, 61, 0), [63, 1]),
            (("below", 1, 62, 0), ("below", 1, 63, 0), [0, 63]), (("below", 1, 61, 0), ("below", 1, 62, 0), [0, 62]),
        ]
        for one, other, worths in rows:
            self.is_just(parting(two(one, other), "a", "b"), worths)
        self.is_just(parting(two(("above", 0, 0, 0), ("below", 1, 0, 0), "switch"), "a", "b"), [0])
        self.is_just(parting(two(("above", 0, 0, 0), ("above", 0, 1, 0), "switch"), "a", "b"), [1, 0])

    def test_long_holds(self):
        for one, other, many in ((99, 98, 99), (99, 0, 1), (99, 50, 51)):
            works = two(("above", 30, 0, one), ("above", 30, 0, other))
            self.is_just(parting(works, "a", "b", length=200), [31] * many)
            self.is_just(parting(works, "a", "b", length=many), [31] * many)
            if many > 1:
                self.assertIs(parting(works, "a", "b", length=many - 1), None)
        works = two(("above", 30, 10, 99), ("above", 30, 11, 99))
        self.is_just(parting(works, "a", "b", length=200), [31] * 100 + [20])
        self.is_just(parting(works, "a", "b", length=101), [31] * 100 + [20])
        self.assertIs(parting(works, "a", "b", length=100), None)

    def test_the_least_by_all_worths(self):
        chance = random.Random(121)
        found = []
        for _ in range(60):
            works = two(some_rule(chance, range(64)), some_rule(chance, range(64)))
            told = parting(works, "a", "b", length=2)
            self.is_just(told, parting_by_words(works, 2, range(64)))
            found.append(told)
        for _ in range(200):
            rules = some_rule(chance, (0, 1)), some_rule(chance, (0, 1))
            works = two(*rules, kind="switch")
            for length in (1, 3, 6):
                told = parting(works, "a", "b", length=length)
                self.is_just(told, parting_by_words(works, length, (0, 1)))
                found.append(told)
        self.assertLess(found.count(None), len(found) - 100)
        self.assertGreater(found.count(None), 50)

    def test_the_least_by_all_worths_at_which_anything_changes(self):
        chance = random.Random(122)
        lengths = []
        for _ in range(120):
            limit = chance.randint(2, 60)
            works = two(some_rule(chance, (limit, limit, limit + 1)), some_rule(chance, (limit, limit + 2)))
            edges = {0}
            for _, _, word, limit, back, _, _ in works.rules():
                edges.update((limit + 1, limit - back + 1) if word == "above" else (limit, limit + back))
            candidates = sorted(worth for worth in edges if 0 <= worth <= 63)
            told = parting(works, "a", "b", length=4)
            self.is_just(told, parting_by_words(works, 4, candidates))
            lengths.append(0 if told is None else len(told))
        for length in range(1, 5):
            self.assertGreater(lengths.count(length), 2, length)

    def test_refused(self):
        works = Works(
            [("p", "x", "level"), ("q", "x", "switch")],
            rules=[("a", "p", "above", 1, 0, 0, 1), ("b", "q", "above", 1, 0, 0, 1), ("c", "p", "above", 2, 0, 0, 1)],
        )
        names = wrong(among("a", "b", "c"))
        self.look_at_arguments(
            parting, ("works", works, NO_WORKS, NoWorks), ("one", "a", names, NoRule), ("other", "c", names, NoRule),
            ("length", 200, NO_LENGTHS, NoNumber),
        )
        for call in (alike_pairs, parting):
            self.look_at_arguments(
                call, ("works", works, NO_WORKS, NoWorks), ("one", "a", names, NoRule), ("other", "c", names, NoRule),
            )
            self.refused(Unlike, "b", call, works, "a", "b")
            self.refused(Unlike, "a", call, works, "b", "a")
        # In this order: the names, then the points, then the length.
        self.refused(Unlike, "b", parting, works, "a", "b", length=0)
        self.refused(NoRule, "p", parting, works, "a", "p", length=0)
        self.refused(NoRule, "p", parting, works, "p", "b", length=0)
        self.refused(Unlike, "b", shows_alike, works, "a", "b", [])
        self.refused(NoRule, "p", shows_alike, works, "a", "p", [])
        self.refused(NoWorks, None, shows_alike, None, "a", "p", [])

    def test_told_anew(self):
        works = two(self.GOOD, ("above", 41, 5, 3))
        self.told_anew(lambda: parting(works, "a", "b"))
        self.told_anew(lambda: alike_pairs(works, "a", "a"))


class StepTest(PanelCase):
    def test_by_hand(self):
        works = works_of(("above", 40, 5, 2), ("below", 3, 0, 0))
        rows = [
            ("a", QUIET, 40, (QUIET, None)), ("a", QUIET, 41, (("waits", 1), None)),
            ("a", ("waits", 1), 63, (("waits", 2), None)), ("a", ("waits", 1), 40, (QUIET, None)),
            ("a", ("waits", 2), 41, (STANDS, "raised")), ("a", ("waits", 2), 0, (QUIET, None)),
            ("a", STANDS, 36, (STANDS, None)), ("a", STANDS, 63, (STANDS, None)), ("a", STANDS, 35, (QUIET, "ended")),
            ("b", QUIET, 3, (QUIET, None)), ("b", QUIET, 2, (STANDS, "raised")), ("b", STANDS, 2, (STANDS, None)),
            ("b", STANDS, 3, (QUIET, "ended")),
        ]
        for rule, stand, worth, told in rows:
            self.is_just(step_of(works, rule, stand, worth), told)
            self.is_just(step_of(worth=worth, stand=stand, rule=rule, works=works), told)

    def test_as_the_events_go(self):
        chance = random.Random(123)
        for _ in range(150):
            works = works_of(some_rule(chance, range(0, 64, 9)))
            rule, stand, worths = works.rule("a"), QUIET, []
            for tick in range(25):
                worths.append(chance.choice((0, 63, max(0, rule[3] - rule[4]), rule[3], min(63, rule[3] + 1))))
                stand, word = step_of(works, "a", stand, worths[-1])
                events = told_by_ticks(rule, history(worths), tick)
                state, since = state_by_ticks(rule, history(worths), tick)
                self.is_just(stand, (state, tick - since + 1 if state == "waits" else 0))
                raised = "raised" if tick in [event[0] for event in events] else None
                self.is_just(word, "ended" if tick in [event[1] for event in events] else raised)

    def test_refused(self):
        works = works_of(("above", 40, 5, 2), ("below", 3, 0, 0), kind="switch")
        stands = [
            *others(), ["quiet", 0], ("quiet", 1), ("quiet", False), ("quiet", None), ("stands", 1), ("stands", False),
            ("waits", 0), ("waits", 3), ("waits", True), ("waits", -1), ("waits", None), ("quiet",), ("quiet", 0, 0),
            ("rests", 0), (None, 0), ("waits", "1"),
        ]
        self.look_at_arguments(
            step_of, ("works", works, NO_WORKS, NoWorks), ("rule", "a", wrong(among("a", "b")), NoRule),
            ("stand", ("waits", 2), stands, NoList), ("worth", 1, [*wrong(whole(0, 1)), True], NoWorth),
        )
        self.refused(NoList, ("waits", 1), step_of, works, "b", ("waits", 1), 0)
        self.refused(NoWorth, 64, step_of, works_of(("above", 40, 5, 2)), "a", QUIET, 64)


class PairsTest(PanelCase):
    ALIKE = [
        (("above", 40, 5, 2), ("above", 40, 5, 2)), (("above", 30, 31, 1), ("above", 30, 63, 1)),
        (("above", 63, 0, 0), ("below", 0, 9, 4)), (("below", 1, 62, 0), ("below", 1, 62, 0)),
    ]

    def test_by_hand(self):
        waits = [(("waits", many), ("waits", many)) for many in (1, 2)]
        self.is_just(alike_pairs(two(*self.ALIKE[0]), "a", "b"), [(QUIET, QUIET), (STANDS, STANDS), *waits])
        self.is_just(alike_pairs(two(*self.ALIKE[2]), "a", "b"), [(QUIET, QUIET)])
        self.assertIs(alike_pairs(two(("above", 40, 5, 2), ("above", 40, 6, 2)), other="b", one="a"), None)
        self.assertIs(alike_pairs(two(("above", 40, 5, 98), ("above", 40, 5, 99)), "a", "b"), None)

    def test_shown(self):
        for rules in self.ALIKE:
            works = two(*rules)
            pairs = alike_pairs(works, "a", "b")
            for thing in (pairs, tuple(pairs), pairs + pairs, pairs[::-1], [*pairs, pairs[0]]):
                self.assertIs(shows_alike(works, "a", "b", thing), True)
            self.assertIs(shows_alike(thing=pairs, other="b", one="a", works=works), True)
            for at in range(len(pairs)):
                self.assertIs(shows_alike(works, "a", "b", pairs[:at] + pairs[at + 1:]), False)
            self.assertIs(shows_alike(works, "a", "b", []), False)

    def test_no_such_lists(self):
        works = two(*self.ALIKE[0])
        pairs = alike_pairs(works, "a", "b")
        near = [
            list(pairs[0]), (QUIET,), (QUIET, QUIET, QUIET), (QUIET, ["quiet", 0]), (("quiet", False), QUIET),
            (QUIET, ("waits", 0)), (QUIET, ("waits", 3)), (("waits", True), ("waits", True)), (QUIET, None), None, 0,
            (QUIET, STANDS), (("waits", 1), QUIET), (("waits", 1), ("waits", 2)), (STANDS, QUIET),
        ]
        for pair in [*near, *others()]:
            self.assertIs(shows_alike(works, "a", "b", [*pairs, pair]), False)
            self.assertIs(shows_alike(works, "a", "b", (pair, *pairs)), False)
        for thing in others():
            self.assertIs(shows_alike(works, "a", "b", thing), False)
        self.assertIs(shows_alike(works, "a", "b", {pair: True for pair in pairs}), False)

    def test_pairs_to_which_nothing_leads(self):
        # A pair may be told to which no worths lead, where all that follows from it is told.
        works = two(("above", 30, 31, 1), ("above", 30, 63, 1))
        pairs = alike_pairs(works, "a", "b")
        self.is_just(pairs, [(QUIET, QUIET), (STANDS, STANDS), (("waits", 1), ("waits", 1))])
        works = two(("above", 63, 0, 2), ("below", 0, 0, 3))
        self.is_just(alike_pairs(works, "a", "b"), [(QUIET, QUIET)])
        self.assertIs(shows_alike(works, "a", "b", [(("waits", 2), QUIET), (QUIET, QUIET), (QUIET, ("waits", 3))]),
                      True)
        self.assertIs(shows_alike(works, "a", "b", [(QUIET, QUIET), (STANDS, QUIET)]), False)

    def test_turned_about(self):
        works = two(("above", 63, 0, 2), ("below", 0, 0, 3))
        pairs = [(QUIET, QUIET), (QUIET, ("waits", 3))]
        turned = [pair[::-1] for pair in pairs]
        self.assertIs(shows_alike(works, "a", "b", pairs), True)
        self.assertIs(shows_alike(works, "b", "a", turned), True)
        self.assertIs(shows_alike(works, "a", "b", turned), False)

    def test_by_the_words(self):
        chance = random.Random(124)
        told = []
        for _ in range(250):
            rule = some_rule(chance, range(0, 64, 21))
            other = chance.choice((rule, (*rule[:2], 63, rule[3]), some_rule(chance, range(0, 64, 21))))
            works = two(rule, other, chance.choice(("level", "switch")))
            pairs = alike_pairs(works, "a", "b")
            self.assertIs(pairs is None, parting(works, "a", "b", length=200) is not None)
            if pairs is not None:
                self.is_just(pairs, sorted(pairs))
                self.assertIs(shows_by_words(works, "a", "b", pairs), True)
                told.append(len(pairs))
            for _ in range(5):
                stands = [QUIET, STANDS, *[("waits", many) for many in range(1, 4)]]
                some = [(chance.choice(stands), chance.choice(stands)) for _ in range(chance.randint(0, 3))]
                thing = [*(pairs or [(QUIET, QUIET)]), *some]
                self.assertIs(shows_alike(works, "a", "b", thing), shows_by_words(works, "a", "b", thing))
        self.assertGreater(len(told), 50)

    def test_all_to_which_worths_lead(self):
        chance = random.Random(125)
        for rules in self.ALIKE:
            works = two(*rules)
            reached, pair = {(QUIET, QUIET)}, (QUIET, QUIET)
            for _ in range(3000):
                worth = chance.choice((0, 1, 30, 31, 36, 40, 41, 63))
                pair = tuple(step_of(works, name, stand, worth)[0] for name, stand in zip("ab", pair))
                reached.add(pair)
            self.is_just(alike_pairs(works, "a", "b"), sorted(reached))


class LargestTest(PanelCase):
    def test_in_time(self):
        rules = [
            ("above", 30, 10, 99), ("above", 20, 63, 99), ("below", 30, 10, 99), ("above", 31, 11, 98),
            ("below", 35, 63, 99), ("above", 30, 10, 99),
        ]
        works = works_of(*rules)
        for one, other in itertools.product("abcdef", repeat=2):
            told = in_time(self, lambda: parting(works, one, other, length=200))
            pairs = in_time(self, lambda: alike_pairs(works, one, other))
            self.assertIs(told is None, pairs is not None)
            if told is not None:
                self.assertTrue(parts(works, told, one + other))
                self.assertFalse(parts(works, told[:-1], one + other))
            else:
                self.assertEqual(len(pairs), works.rule(one)[5] + 2)
                self.assertIs(in_time(self, lambda: shows_alike(works, one, other, pairs * 10)), True)

    def test_pairs_far_apart(self):
        # Both are never raised, of other holds and limits: all pairs of their stands may be told.
        works = works_of(("above", 63, 0, 99), ("below", 0, 0, 99))
        stands = [QUIET, *[("waits", many) for many in range(1, 100)]]
        pairs = [(one, other) for one in stands for other in stands]
        self.assertIs(in_time(self, lambda: shows_alike(works, "a", "b", pairs)), True)


if __name__ == "__main__":
    unittest.main()
