"""Tests of panelwatch.lists: points 64 to 67."""

import itertools
import random
import unittest

from panelwatch.causes import chain_of
from panelwatch.errors import NoEvents, NoList, NoNumber, NoRule, NoTime, NoWorks
from panelwatch.lists import alarm_list, back_at, is_shelved, shows_list, standing
from panelwatch.works import Works
from tests.test_causes import EVENTS, NO_RULES, NO_TIMES, NO_WORKS, no_events, rules_of, some_events
from tests.things import POINTS, PanelCase, others, sample, whole, wrong

NAMES = "abcdef"
NO_NUMBERS = [*wrong(whole(1, 99)), True, 0, 100]
SHELVES = [("high", 3, 9), ("low", 0, 9999), ("high", 9, 12), ("high", 5, 10)]


def no_shelves():
    """Things that are no shelves of the sample's works."""
    good = ("high", 3, 9)
    rows = [
        *others(), list(good), good[:2], (*good, 1), ("zz", 3, 9), ("lv", 3, 9), ("north", 3, 9), (None, 3, 9),
        ([], 3, 9), ("high", True, 9), ("high", 3, True), ("high", 3, 3), ("high", 9, 3), ("high", 3, 10000),
        ("high", -1, 3), ("high", 3, None), ("high", None, 9), ("high", "3", 9),
    ]
    return [
        *[thing for thing in others() if thing not in ([], ())], *[[row] for row in rows],
        *[[*SHELVES, row] for row in rows[-14:]], (good, good, rows[-1]), [good] * 21,
        tuple([good] * 21), good, {"high": good},
    ]


def shelved_by_words(shelves, name, at):
    return any(rule == name and since <= at < end for rule, since, end in shelves)


def some_shelves(chance, names, many=20):
    shelves = []
    for _ in range(chance.randint(0, many)):
        since = chance.randrange(40)
        shelves.append((chance.choice(names), since, since + chance.randint(1, 15)))
    return shelves


def some_works(chance):
    pairs = chance.sample(list(itertools.combinations(NAMES, 2)), k=chance.randint(0, 8))
    causes = [(one, other, chance.choice((0, 2, 10, 999))) for one, other in pairs]
    rules = [(*rule[:6], chance.randint(1, 3)) for rule in chance.sample(rules_of(6), k=6)]
    return Works(POINTS, rules=rules, causes=causes)


def standing_by_words(works, events, at):
    told = [
        (name, raised) for name, rows in events.items() for raised, ended in rows
        if raised <= at and (ended is None or ended > at)
    ]
    return sorted(told, key=lambda event: (works.rule(event[0])[6], event[1], event[0]))


def list_by_words(works, events, at, shelves, most):
    listed = [event for event in standing_by_words(works, events, at) if not shelved_by_words(shelves, event[0], at)]

    def head(event):
        return [one for one in chain_of(works, events, *event) if one in listed][-1]

    rows = [
        (*event, [other for other in listed if other != event and head(other) == event])
        for event in listed if head(event) == event
    ]
    return rows[:most], len(rows) - len(rows[:most])


class StandingTest(PanelCase):
    def test_in_order(self):
        self.is_just(standing(sample(), EVENTS, 4), [])
        self.is_just(standing(sample(), EVENTS, 5), [("high", 5)])
        self.is_just(standing(sample(), EVENTS, 7), [("high", 5), ("low", 6)])
        self.is_just(standing(sample(), EVENTS, 8), [("high", 5)])
        self.is_just(standing(sample(), EVENTS, 9), [])
        told = [("high", 20), ("low", 25), ("far", 30), ("shut", 30)]
        self.is_just(standing(at=30, events=EVENTS, works=sample()), told)
        self.is_just(standing(sample(), EVENTS, 31), [("high", 20), ("low", 25), ("far", 30)])
        self.is_just(standing(sample(), EVENTS, 9999), [("high", 20), ("far", 30)])
        self.is_just(standing(sample(), {}, 5), [])

    def test_by_rank_then_raised_then_name(self):
        rules = [(name, "lv", "above", 1, 0, 0, rank) for name, rank in zip("fedcba", (1, 3, 2, 2, 2, 1))]
        works = Works(POINTS, rules=rules)
        rows = {name: [(raised, None)] for name, raised in zip("abcdef", (9, 5, 5, 4, 0, 9))}
        self.is_just(standing(works, rows, 9), [("a", 9), ("f", 9), ("d", 4), ("b", 5), ("c", 5), ("e", 0)])

    def test_by_the_words(self):
        chance = random.Random(64)
        for _ in range(100):
            works = some_works(chance)
            rows = some_events(chance, works)
            for at in range(0, 45, 2):
                self.is_just(standing(works, rows, at), standing_by_words(works, rows, at))

    def test_refused(self):
        self.look_at_arguments(
            standing, ("works", sample(), NO_WORKS, NoWorks), ("events", EVENTS, no_events(), NoEvents),
            ("at", 30, NO_TIMES, NoTime),
        )

    def test_told_anew(self):
        self.told_anew(lambda: standing(sample(), EVENTS, 30))


class ShelvesTest(PanelCase):
    def test_ends_are_not_counted(self):
        told = [is_shelved(sample(), [("high", 3, 9)], "high", at) for at in (0, 2, 3, 8, 9, 9999)]
        self.is_just(told, [False, False, True, True, False, False])
        told = [back_at(sample(), [("high", 3, 9)], "high", at) for at in (0, 2, 3, 8, 9, 9999)]
        self.is_just(told, [0, 2, 9, 9, 9, 9999])
        self.is_just(is_shelved(sample(), [("high", 3, 9)], "low", 5), False)
        self.is_just(back_at(sample(), [("high", 3, 9)], "low", 5), 5)

    def test_shelves_that_touch_and_lie_over_one_another(self):
        for shelves in itertools.permutations(SHELVES):
            self.is_just(back_at(sample(), shelves, "high", 4), 12)
            self.is_just(back_at(sample(), list(shelves), "high", 11), 12)
            self.is_just(back_at(sample(), list(shelves), "high", 12), 12)
            self.is_just(back_at(sample(), list(shelves), "low", 0), 9999)
            self.is_just(is_shelved(sample(), shelves, "high", 9), True)
        self.is_just(back_at(sample(), [("high", 3, 9), ("high", 10, 12)], "high", 4), 9)
        self.is_just(back_at(at=4, name="high", shelves=SHELVES, works=sample()), 12)
        self.is_just(is_shelved(at=4, name="far", shelves=SHELVES, works=sample()), False)

    def test_at_most_twenty(self):
        shelves = [("high", at, at + 1) for at in range(20)]
        for handed in (shelves, tuple(shelves), shelves[::-1]):
            self.is_just(back_at(sample(), handed, "high", 0), 20)
        self.is_just(back_at(sample(), shelves[::2], "high", 4), 5)
        self.is_just(is_shelved(sample(), [], "high", 0), False)
        self.is_just(back_at(sample(), (), "high", 0), 0)

    def test_by_the_words(self):
        chance = random.Random(65)
        works = Works(POINTS, rules=rules_of(6))
        for _ in range(100):
            shelves = some_shelves(chance, "ab")
            for name, at in itertools.product("abc", range(0, 60, 5)):
                self.is_just(is_shelved(works, shelves, name, at), shelved_by_words(shelves, name, at))
                back = min(time for time in range(at, 100) if not shelved_by_words(shelves, name, time))
                self.is_just(back_at(works, shelves, name, at), back)

    def test_refused(self):
        for ask in (is_shelved, back_at):
            self.look_at_arguments(
                ask, ("works", sample(), NO_WORKS, NoWorks), ("shelves", SHELVES, no_shelves(), NoList),
                ("name", "high", NO_RULES, NoRule), ("at", 5, NO_TIMES, NoTime),
            )


class AlarmListTest(PanelCase):
    def test_under_their_heads(self):
        self.is_just(alarm_list(sample(), EVENTS, 7), ([("high", 5, [("low", 6)])], 0))
        told = ([("high", 20, [("low", 25), ("far", 30)]), ("shut", 30, [])], 0)
        self.is_just(alarm_list(sample(), EVENTS, 30), told)
        self.is_just(alarm_list(at=30, events=EVENTS, works=sample(), most=9, shelves=[]), told)
        self.is_just(alarm_list(sample(), EVENTS, 3), ([], 0))
        self.is_just(alarm_list(sample(), {}, 3), ([], 0))

    def test_an_ended_cause_is_no_head(self):
        rows = {"high": [(5, 9)], "low": [(6, 50)], "far": [(8, None)]}
        self.is_just(alarm_list(sample(), rows, 8), ([("high", 5, [("low", 6), ("far", 8)])], 0))
        self.is_just(alarm_list(sample(), rows, 9), ([("low", 6, []), ("far", 8, [])], 0))
        rows = {"high": [(0, 16)], "low": [(15, None)], "far": [(20, None)]}
        self.is_just(alarm_list(sample(), rows, 20), ([("low", 15, [("far", 20)])], 0))

    def test_a_chain_goes_on_behind_what_is_not_listed(self):
        works = Works(POINTS, rules=rules_of(3), causes=[("a", "b", 9), ("b", "c", 9)])
        rows = {"a": [(1, None)], "b": [(2, 9)], "c": [(3, None)]}
        self.is_just(alarm_list(works, rows, 4), ([("a", 1, [("b", 2), ("c", 3)])], 0))
        self.is_just(alarm_list(works, rows, 9), ([("a", 1, [("c", 3)])], 0))
        self.is_just(alarm_list(works, rows, 4, shelves=[("b", 4, 5)]), ([("a", 1, [("c", 3)])], 0))
        self.is_just(alarm_list(works, rows, 4, shelves=[("a", 4, 5)]), ([("b", 2, [("c", 3)])], 0))
        self.is_just(alarm_list(works, rows, 4, shelves=[("a", 4, 5), ("b", 0, 9)]), ([("c", 3, [])], 0))
        self.is_just(alarm_list(works, rows, 5, shelves=[("a", 4, 5)]), ([("a", 1, [("b", 2), ("c", 3)])], 0))

    def test_under_is_in_order(self):
        works = Works(POINTS, rules=rules_of(6), causes=[("c", name, 99) for name in "abdef"])
        rows = {name: [(raised, None)] for name, raised in zip("cabdef", (1, 9, 3, 2, 3, 1))}
        told = standing(works, rows, 9)
        self.is_just(alarm_list(works, rows, 9), ([("c", 1, [event for event in told if event[0] != "c"])], 0))

    def test_most(self):
        works = Works(POINTS, rules=rules_of(6))
        rows = {name: [(at, None)] for at, name in enumerate(NAMES)}
        heads = [(*event, []) for event in standing(works, rows, 9)]
        for most in (1, 2, 5, 6, 7, 9, 98, 99):
            self.is_just(alarm_list(works, rows, 9, most=most), (heads[:most], max(0, 6 - most)))
        self.is_just(alarm_list(works, rows, 9), (heads, 0))

    def test_by_the_words(self):
        chance = random.Random(66)
        for _ in range(150):
            works = some_works(chance)
            rows, shelves = some_events(chance, works), some_shelves(chance, NAMES, 6)
            for at in range(0, 45, 3):
                most = chance.choice((1, 2, 3, 9, 99))
                told = alarm_list(works, rows, at, shelves=shelves, most=most)
                self.is_just(told, list_by_words(works, rows, at, shelves, most))
                self.assertIs(shows_list(works, rows, at, told, shelves=tuple(shelves), most=most), True)
                self.is_just(alarm_list(works, rows, at), list_by_words(works, rows, at, [], 9))
                heads, more = alarm_list(works, rows, at, shelves=shelves, most=99)
                self.assertEqual(more, 0)
                told = [event for name, raised, under in heads for event in [(name, raised), *under]]
                listed = [one for one in standing(works, rows, at) if not shelved_by_words(shelves, one[0], at)]
                self.assertEqual(sorted(told), sorted(listed))

    def test_a_shelved_one_comes_back(self):
        rows = {"high": [(5, None)]}
        for at in range(20):
            told = alarm_list(sample(), rows, at, shelves=[("high", 3, 9), ("high", 8, 12), ("low", 0, 99)])
            self.is_just(told, ([("high", 5, [])] if at >= 12 else [], 0))

    def test_refused(self):
        self.look_at_arguments(
            alarm_list, ("works", sample(), NO_WORKS, NoWorks), ("events", EVENTS, no_events(), NoEvents),
            ("at", 30, NO_TIMES, NoTime), ("shelves", SHELVES, no_shelves(), NoList), ("most", 5, NO_NUMBERS, NoNumber),
        )
        self.refused(NoNumber, None, alarm_list, sample(), EVENTS, 30, most=None)

    def test_told_anew_and_handed_in_stays(self):
        rows, shelves = {name: list(events) for name, events in EVENTS.items()}, list(SHELVES)
        self.told_anew(lambda: alarm_list(sample(), rows, 30, shelves=shelves))
        self.assertEqual((rows, shelves), (EVENTS, SHELVES))


class ShowsTest(PanelCase):
    def test_just_that(self):
        heads = [("high", 20, [("low", 25), ("far", 30)]), ("shut", 30, [])]
        self.assertIs(shows_list(sample(), EVENTS, 30, (heads, 0)), True)
        self.assertIs(shows_list(sample(), EVENTS, 30, (heads[:1], 1), most=1), True)
        for thing in (
            *others(), [heads, 0], (tuple(heads), 0), (heads, 1), (heads, False), (heads,), (heads, 0, 0), heads,
            (heads[::-1], 0), (heads[:1], 0), (heads[:1], 1), ([*heads, heads[0]], 0), ([list(heads[0]), heads[1]], 0),
            ([(*heads[0][:2], tuple(heads[0][2])), heads[1]], 0), ([(*heads[0][:2], heads[0][2][::-1]), heads[1]], 0),
            ([heads[0], ("shut", 30, ())], 0), ([heads[0], ("shut", 30)], 0), ([heads[0], ("shut", 30, None)], 0),
            ([("high", 20, [["low", 25], ("far", 30)]), heads[1]], 0), (heads, None), (heads, "0"),
        ):
            with self.subTest(thing=repr(thing)[:80]):
                self.assertIs(shows_list(sample(), EVENTS, 30, thing), False)
        self.assertIs(shows_list(sample(), EVENTS, 30, (heads[:1], True), most=1), False)
        self.assertIs(shows_list(sample(), {"high": [(1, None)]}, 1, ([("high", True, [])], 0)), False)
        self.assertIs(shows_list(sample(), {"high": [(1, None)]}, 1, ([("high", 1, [])], 0)), True)
        self.assertIs(shows_list(sample(), EVENTS, 30, ([("far", 30, [])], 0),
                                 shelves=[(name, 30, 31) for name in ("high", "low", "shut")]), True)

    def test_refused(self):
        self.look_at_arguments(
            shows_list, ("works", sample(), NO_WORKS, NoWorks), ("events", EVENTS, no_events(), NoEvents),
            ("at", 30, NO_TIMES, NoTime), ("thing", [], [], None), ("shelves", SHELVES, no_shelves(), NoList),
            ("most", 5, NO_NUMBERS, NoNumber),
        )


if __name__ == "__main__":
    unittest.main()
