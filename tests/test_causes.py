"""Tests of panelwatch.causes: points 61 to 63."""

import itertools
import random
import unittest

from panelwatch.alarms import events as events_of
from panelwatch.causes import are_events, cause_of, chain_of, first_cause, shows_chain
from panelwatch.errors import NoEvents, NoRule, NotThere, NoTime, NoWorks
from panelwatch.works import Works
from tests import chances
from tests.things import POINTS, PanelCase, among, others, sample, whole, wrong

NO_WORKS = wrong(lambda thing: isinstance(thing, Works))
NO_TIMES = [*wrong(whole(0, 9999)), True, 10000]
NO_RULES = wrong(among("high", "low", "far", "shut"))
# By the sample's causes: high is one of low, within 20, and of far, 999; low of far, 7; shut of far, 0.
EVENTS = {"high": [(5, 9), (20, None)], "low": [(6, 8), (25, 60)], "far": [(30, None)], "shut": [(30, 31)]}


def rules_of(many):
    return [("abcdef"[at], "lv", "above", 1, 0, 0, at % 3 + 1) for at in range(many)]


def is_event_list(thing):
    """By the words of point 61."""
    if type(thing) not in (list, tuple):
        return False
    last = -1
    for at, event in enumerate(thing):
        if type(event) is not tuple or len(event) != 2 or not whole(last + 1, 9999)(event[0]):
            return False
        if event[1] is None:
            return at == len(thing) - 1
        if not whole(event[0] + 1, 9999)(event[1]):
            return False
        last = event[1]
    return True


def no_events():
    """Things that are no events of the sample's works."""
    good = [(5, 9), (20, None)]
    lists = [
        *[thing for thing in others() if not is_event_list(thing)],
        [list(good[0])], [(5, 9, 1)], [(5,)], [5, 9], [good],
        [(5, 5)], [(5, 4)], [(True, 9)], [(5, True)], [(None, 9)], [(5, 10000)], [(-1, 9)], [(10000, None)],
        [(5, False)], [("5", 9)], [(5, "9")], [(5, 9), (9, None)], [(5, 9), (8, 20)], [(5, None), (20, 30)],
        [(5, None), (20, None)], good[::-1], [(5, 9), None], [good[0], good[0]], {5: 9},
    ]
    keys = ["zz", "lv", "north", "open", "High", "", 0, 1, True, None, 10000]
    return [
        *[thing for thing in others() if thing != {}], *[{"high": rows} for rows in lists],
        *[{"low": [], "far": good, "high": rows} for rows in lists[-12:]], *[{key: []} for key in keys],
        *[{**EVENTS, key: good} for key in keys], [("high", good)], [good], good,
    ]


def cause_by_words(works, events, name, raised):
    """By the words of point 62."""
    best = None
    for one, rows in events.items():
        for begun, ended in rows:
            for cause, effect, within in works.causes():
                if cause == one and effect == name and begun <= raised <= begun + within:
                    if (ended is None or ended > raised) and (best is None or (begun, one) < best):
                        best = (begun, one)
    return None if best is None else best[::-1]


def some_events(chance, works, last=40):
    """Events of some rules, in any order."""
    told = {}
    for rule in chance.sample(works.rules(), k=chance.randint(0, len(works.rules()))):
        times = sorted(chance.sample(range(last), k=chance.randint(0, 8)))
        rows = [(times[at], times[at + 1] if at + 1 < len(times) else None) for at in range(0, len(times), 2)]
        told[rule[0]] = rows
    return told


def all_named(events):
    return [(name, raised) for name, rows in events.items() for raised, _ in rows]


class AreEventsTest(PanelCase):
    def test_some(self):
        for thing in ({}, EVENTS, {"high": []}, {"high": ()}, {"low": ((5, 9), (10, None))}, {"far": [(0, 9999)]},
                      {"shut": [(9999, None)]}, {"high": [(0, 1), (2, 3), (4, 5)]}):
            self.assertIs(are_events(sample(), thing), True)
        self.assertIs(are_events(thing={}, works=sample()), True)

    def test_none(self):
        for thing in no_events():
            with self.subTest(thing=repr(thing)[:60]):
                self.assertIs(are_events(sample(), thing), False)
        self.look_at_arguments(are_events, ("works", sample(), NO_WORKS, NoWorks), ("thing", 5, [], None))

    def test_short_lists(self):
        ends = [(raised, ended) for raised in range(4) for ended in (*range(5), None)]
        for rows in itertools.chain.from_iterable(itertools.product(ends, repeat=many) for many in range(3)):
            self.assertIs(are_events(sample(), {"high": list(rows)}), is_event_list(list(rows)))

    def test_rules_of_the_works(self):
        works = Works(POINTS, rules=rules_of(6))
        self.assertIs(are_events(works, {sign: [(1, 2)] for sign in "fedcba"}), True)
        self.assertIs(are_events(works, {"high": [(1, 2)]}), False)

    def test_what_a_watch_tells(self):
        chance = random.Random(61)
        for _ in range(50):
            history = chances.history(chance, 30, worths=(0, 3, 40, 41, 63))
            told = {rule[0]: events_of(rule, history, 70) for rule in sample().rules()}
            self.assertIs(are_events(sample(), told), True)


class CauseTest(PanelCase):
    def test_some(self):
        told = {
            ("high", 5): None, ("high", 20): None, ("low", 6): ("high", 5), ("low", 25): ("high", 20),
            ("far", 30): ("high", 20), ("shut", 30): None,
        }
        for (name, raised), cause in told.items():
            self.is_just(cause_of(sample(), EVENTS, name, raised), cause)
        self.is_just(cause_of(raised=6, name="low", events=EVENTS, works=sample()), ("high", 5))
        rows = {name: tuple(rows) for name, rows in EVENTS.items()}
        self.is_just(cause_of(sample(), rows, "low", 6), ("high", 5))

    def test_within(self):
        for begun, raised in itertools.product(range(0, 60, 3), range(0, 60, 4)):
            rows = {"high": [(begun, None)], "low": [(raised, None)]}
            told = ("high", begun) if begun <= raised <= begun + 20 else None
            self.is_just(cause_of(sample(), rows, "low", raised), told)

    def test_within_zero_meets_in_one_tick(self):
        for begun in (4, 5, 6):
            rows = {"shut": [(begun, 90)], "far": [(5, None)]}
            self.is_just(cause_of(sample(), rows, "far", 5), ("shut", 5) if begun == 5 else None)

    def test_ended_by_then(self):
        for ended, told in ((9, None), (10, None), (11, ("high", 5)), (None, ("high", 5))):
            self.is_just(cause_of(sample(), {"high": [(5, ended)], "low": [(10, 20)]}, "low", 10), told)
        self.is_just(cause_of(sample(), {"high": [(5, 10), (11, None)], "low": [(10, 20)]}, "low", 10), None)

    def test_the_one_raised_earliest_and_of_the_lesser_name(self):
        rules = rules_of(6)
        causes = [(name, "f", 10) for name in "dbeca"]
        works = Works(POINTS, rules=rules, causes=causes)
        self.is_just(cause_of(works, {"f": [(9, None)], "a": [(4, None)], "b": [(3, None)], "e": [(2, 9)]}, "f", 9),
                     ("b", 3))
        self.is_just(cause_of(works, {"f": [(9, None)], "d": [(3, None)], "c": [(3, None)], "a": [(4, 20)]}, "f", 9),
                     ("c", 3))
        self.is_just(cause_of(works, {"a": [(9, None)], "f": [(9, None)], "e": [(9, None)]}, "f", 9), ("a", 9))

    def test_refused(self):
        for ask in (cause_of, chain_of, first_cause):
            self.look_at_arguments(
                ask, ("works", sample(), NO_WORKS, NoWorks), ("events", EVENTS, no_events(), NoEvents),
                ("name", "low", NO_RULES, NoRule), ("raised", 25, NO_TIMES, NoTime),
            )
            for name, raised in (("low", 7), ("low", 8), ("far", 31), ("high", 0)):
                self.refused(NotThere, (name, raised), ask, sample(), EVENTS, name, raised)
                self.refused(NotThere, (name, raised), ask, sample(), {}, name, raised)
            self.refused(NoEvents, None, ask, sample(), None, "zz", None)


class ChainTest(PanelCase):
    def test_some(self):
        self.is_just(chain_of(sample(), EVENTS, "low", 25), [("low", 25), ("high", 20)])
        self.is_just(chain_of(sample(), EVENTS, "high", 20), [("high", 20)])
        self.is_just(first_cause(sample(), EVENTS, "low", 25), ("high", 20))
        self.is_just(first_cause(sample(), EVENTS, "high", 20), ("high", 20))
        rows = {"high": [(0, None)], "low": [(15, None)], "far": [(20, 21)]}
        self.is_just(chain_of(sample(), rows, "far", 20), [("far", 20), ("high", 0)])
        rows = {"high": [(0, 16)], "low": [(15, None)], "far": [(20, 21)]}
        chain = [("far", 20), ("low", 15), ("high", 0)]
        self.is_just(chain_of(name="far", works=sample(), raised=20, events=rows), chain)
        self.is_just(first_cause(name="far", works=sample(), raised=20, events=rows), ("high", 0))

    def test_through_all_rules(self):
        causes = [("abcdef"[at], "abcdef"[at + 1], 999) for at in range(5)]
        works = Works(POINTS, rules=rules_of(6), causes=causes)
        rows = {"abcdef"[at]: [(7 * at, 7 * at + 8)] for at in range(6)}
        chain = [("abcdef"[at], 7 * at) for at in range(5, -1, -1)]
        self.is_just(chain_of(works, rows, "f", 35), chain)
        rows = {sign: [(3, None)] for sign in "fcbade"}
        self.is_just(chain_of(works, rows, "f", 3), [(sign, 3) for sign in "fedcba"])
        self.is_just(first_cause(works, rows, "f", 3), ("a", 3))

    def test_by_the_words(self):
        chance = random.Random(63)
        for _ in range(300):
            pairs = chance.sample(list(itertools.combinations("abcdef", 2)), k=chance.randint(0, 8))
            causes = [(one, other, chance.choice((0, 1, 3, 10, 999))) for one, other in pairs]
            works = Works(POINTS, rules=chance.sample(rules_of(6), k=6), causes=causes)
            rows = some_events(chance, works)
            for event in all_named(rows):
                self.is_just(cause_of(works, rows, *event), cause_by_words(works, rows, *event))
                chain = [event]
                while (cause := cause_by_words(works, rows, *chain[-1])) is not None:
                    chain.append(cause)
                self.is_just(chain_of(works, rows, *event), chain)
                self.is_just(first_cause(works, rows, *event), chain[-1])
                self.assertIs(shows_chain(works, rows, *event, chain), True)
                self.assertIs(shows_chain(works, rows, *event, [*chain, chain[0]]), False)

    def test_told_anew_and_handed_in_stays(self):
        rows = {name: list(events) for name, events in EVENTS.items()}
        self.told_anew(lambda: chain_of(sample(), rows, "low", 25))
        self.assertEqual(rows, EVENTS)

    def test_a_hundred_events(self):
        rows = {name: [(at * 4, at * 4 + 3) for at in range(110)] for name in ("high", "low", "far")}
        self.is_just(chain_of(sample(), rows, "far", 436), [("far", 436), ("high", 436)])


class ShowsTest(PanelCase):
    def test_the_chain_alone(self):
        chain = [("low", 25), ("high", 20)]
        self.assertIs(shows_chain(sample(), EVENTS, "low", 25, chain), True)
        self.assertIs(shows_chain(thing=chain, raised=25, name="low", events=EVENTS, works=sample()), True)
        for thing in (*others(), tuple(chain), chain[:1], chain[1:], chain[::-1], [list(chain[0]), chain[1]],
                      [*chain, ("high", 5)], [*chain, None], [("low", 25), ("high", "20")], [("low", 25), ("high",)],
                      [("low", 25), ("high", 20, 20)], ["low", "high"]):
            self.assertIs(shows_chain(sample(), EVENTS, "low", 25, thing), False)

    def test_true_and_false_are_no_times(self):
        for raised in (0, 1):
            rows = {"high": [(raised, None)]}
            self.assertIs(shows_chain(sample(), rows, "high", raised, [("high", raised)]), True)
            self.assertIs(shows_chain(sample(), rows, "high", raised, [("high", bool(raised))]), False)

    def test_refused(self):
        self.look_at_arguments(
            shows_chain, ("works", sample(), NO_WORKS, NoWorks), ("events", EVENTS, no_events(), NoEvents),
            ("name", "low", NO_RULES, NoRule), ("raised", 25, NO_TIMES, NoTime), ("thing", [], [], None),
        )
        self.refused(NotThere, ("low", 7), shows_chain, sample(), EVENTS, "low", 7, None)


if __name__ == "__main__":
    unittest.main()
