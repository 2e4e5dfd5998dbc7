"""Tests of panelwatch.alarms: points 51 to 56."""

import itertools
import random
import unittest

from panelwatch.alarms import Watch, events, raised_by, shows_events, state_at, sure_events
from panelwatch.errors import NoHearing, NoHistory, NoRule, NotNow, NoTime, NoWorth
from panelwatch.hearing import Hearing
from panelwatch.plainroom import PlainRoom
from panelwatch.works import Works
from tests import chances
from tests.things import RULES, PanelCase, among, others, sample, whole, wrong

HIGH = ("high", "lv", "above", 40, 5, 3, 1)
LOW = ("low", "lv", "below", 10, 4, 0, 2)
TIMES = [*wrong(whole(0, 9999)), True, 10000]


def is_rule(thing):
    if type(thing) is not tuple or len(thing) != 7:
        return False
    tests = (among("high", "low"), among("lv"), among("above", "below"), whole(0, 63), whole(0, 63), whole(0, 99),
             whole(1, 3))
    return all(fits(part) for fits, part in zip(tests, thing))


def no_rules():
    near = [list(HIGH), HIGH[:6], (*HIGH, 1), "high", (HIGH,), ("LV", *HIGH[1:])]
    for at in range(7):
        for thing in (*others(), -1, 64, 100, 4):
            row = (*HIGH[:at], thing, *HIGH[at + 1:])
            if not is_rule(row) and not (at < 2 and type(thing) is str):
                near.append(row)
    return [*others(), *near]


def no_histories():
    good = (3, 50, "good")
    rows = [
        list(good), good[:2], (*good, 1), (True, 50, "good"), (10000, 50, "good"), (-1, 50, "good"), (3, 64, "good"),
        (3, -1, "good"), (3, True, "good"), (3, None, "good"), (3, 50, "fine"), (3, 50, None), (3, 50, ["good"]),
        good[0], None, "good", [], {},
    ]
    wholes = [thing for thing in others() if thing not in ([], ())]
    return [
        *wholes, *[[row] for row in rows], *[[good, row] for row in rows], [good, good],
        ((3, 1, "good"), (3, 2, "odd")), [(4, 50, "good"), (3, 50, "good")],
        [(1, 5, "good"), (3, 5, "good"), (2, 5, "good")], good,
    ]


def worth_at(history, at):
    rows = [row for row in history if row[2] == "good" and row[0] <= at]
    return rows[-1][1] if rows else None


def is_beyond(rule, worth):
    return worth is not None and (worth > rule[3] if rule[2] == "above" else worth < rule[3])


def is_at_rest(rule, worth):
    return worth <= rule[3] - rule[4] if rule[2] == "above" else worth >= rule[3] + rule[4]


def told_by_ticks(rule, history, till):
    """The events, tick by tick by the words of point 52."""
    told, hold = [], rule[5]
    beyond = [is_beyond(rule, worth_at(history, at)) for at in range(till + 1)]
    for at in range(till + 1):
        since = at - hold
        if told and told[-1][1] is None:
            if is_at_rest(rule, worth_at(history, at)):
                told[-1] = (told[-1][0], at)
        elif since >= 0 and all(beyond[since:at + 1]):
            ended = any(event[1] <= since for event in told)
            if since == 0 or not beyond[since - 1] or ended:
                told.append((at, None))
    return told


def state_by_ticks(rule, history, at):
    told = told_by_ticks(rule, history, at)
    if told and told[-1][1] is None:
        return "stands", told[-1][0]
    since = at + 1
    while since > 0 and is_beyond(rule, worth_at(history, since - 1)):
        since -= 1
    return ("waits", since) if since <= at else ("quiet", None)


def look(watch):
    return watch.events(), watch.state(), len(watch)


class WatchTest(PanelCase):
    def test_raised_and_ended(self):
        watch = Watch(HIGH)
        self.is_just(look(watch), ([], ("quiet", None), 0))
        self.is_just(watch.hear(2, 41), [])
        self.is_just(watch.state(), ("waits", 2))
        self.is_just(watch.go_on(4), [])
        self.is_just(watch.go_on(5), [("raised", 5)])
        self.is_just(look(watch), ([(5, None)], ("stands", 5), 1))
        self.is_just(watch.hear(8, 36), [])
        self.is_just(watch.state(), ("stands", 5))
        self.is_just(watch.hear(9, 35), [("ended", 9)])
        self.is_just(look(watch), ([(5, 9)], ("quiet", None), 1))
        self.is_just(watch.hear(worth=63, time=10), [])
        self.is_just(watch.hear(time=20, worth=0), [("raised", 13), ("ended", 20)])
        self.is_just(look(watch), ([(5, 9), (13, 20)], ("quiet", None), 2))

    def test_hold_is_counted_to_its_last_tick(self):
        for end, told in ((4, []), (5, []), (6, [("raised", 5), ("ended", 6)])):
            watch = Watch(HIGH)
            watch.hear(2, 50)
            self.is_just(watch.hear(end, 0), told)

    def test_a_worth_beyond_at_the_last_tick_raises(self):
        watch = Watch(HIGH)
        watch.hear(2, 50)
        self.is_just(watch.hear(5, 41), [("raised", 5)])

    def test_waits_anew_behind_a_break(self):
        watch = Watch(HIGH)
        for time, worth, state in ((1, 50, ("waits", 1)), (3, 40, ("quiet", None)), (4, 41, ("waits", 4)),
                                   (6, 63, ("waits", 4))):
            self.is_just(watch.hear(time, worth), [])
            self.is_just(watch.state(), state)
        self.is_just(watch.go_on(7), [("raised", 7)])

    def test_without_a_hold(self):
        watch = Watch(LOW)
        self.is_just(watch.hear(0, 9), [("raised", 0)])
        self.is_just(watch.hear(1, 13), [])
        self.is_just(watch.hear(2, 14), [("ended", 2)])
        self.is_just(watch.hear(3, 0), [("raised", 3)])
        self.is_just(watch.events(), [(0, 2), (3, None)])

    def test_hold_ninety_nine(self):
        watch = Watch((*HIGH[:5], 99, 1))
        watch.hear(0, 50)
        self.is_just(watch.go_on(98), [])
        self.is_just(watch.go_on(99), [("raised", 99)])
        watch = Watch((*HIGH[:5], 99, 1))
        watch.hear(9901, 50)
        self.is_just(watch.go_on(9999), [])
        self.is_just(watch.state(), ("waits", 9901))

    def test_backs_beyond_all_worths_never_end(self):
        rows = [("above", 10, 11, (11, 0)), ("below", 60, 4, (59, 63)), ("above", 62, 63, (63, 0)),
                ("below", 1, 63, (0, 63))]
        for word, limit, back, worths in rows:
            watch = Watch(("r", "lv", word, limit, back, 0, 1))
            self.is_just(watch.hear(3, worths[0]), [("raised", 3)])
            self.is_just(watch.hear(5, worths[1]), [])
            self.is_just(watch.go_on(9999), [])
            self.is_just(watch.state(), ("stands", 3))

    def test_backs_at_the_bounds_end(self):
        rows = [("above", 10, 10, (11, 1, 0)), ("below", 60, 3, (59, 62, 63)), ("above", 10, 0, (11, 11, 10)),
                ("below", 10, 0, (9, 9, 10))]
        for word, limit, back, worths in rows:
            watch = Watch(("r", "lv", word, limit, back, 0, 1))
            self.is_just([watch.hear(at, worth) for at, worth in enumerate(worths)],
                         [[("raised", 0)], [], [("ended", 2)]])

    def test_rules_that_are_never_beyond(self):
        for word, limit in (("above", 63), ("below", 0)):
            watch = Watch(("r", "lv", word, limit, 0, 0, 1))
            for worth in range(64):
                self.is_just(watch.hear(worth, worth), [])
            self.is_just(watch.state(), ("quiet", None))

    def test_times_only_go_on(self):
        def fresh():
            watch = Watch(HIGH)
            watch.hear(2, 50)
            watch.go_on(7)
            return watch

        for time in (0, 6, 7):
            watch = fresh()
            self.stays(lambda: look(watch), NotNow, time, watch.hear, time, 0)
            self.assertTrue(watch == fresh())
        for time in (0, 2, 6):
            watch = fresh()
            self.stays(lambda: look(watch), NotNow, time, watch.go_on, time)
            self.assertTrue(watch == fresh())
        self.is_just(watch.go_on(7), [])
        self.assertTrue(watch == fresh())
        self.is_just(watch.hear(8, 0), [("ended", 8)])
        self.is_just(watch.go_on(8), [])

    def test_to_go_on_is_told_as_a_time(self):
        watch = Watch(HIGH)
        self.is_just(watch.go_on(0), [])
        self.is_just(watch.go_on(0), [])
        self.refused(NotNow, 0, watch.hear, 0, 50)
        self.is_just(watch.hear(1, 50), [])
        self.is_just(watch.state(), ("waits", 1))

    def test_refused(self):
        no_worths = [*wrong(whole(0, 63)), True]

        def fresh(name):
            def call(**named):
                watch, kept = Watch(HIGH), Watch(HIGH)
                for one in (watch, kept):
                    one.hear(1, 50)
                try:
                    return getattr(watch, name)(**named)
                except (NoTime, NoWorth):
                    self.assertTrue(watch == kept)
                    raise
            return call

        self.look_at_arguments(fresh("hear"), ("time", 5, TIMES, NoTime), ("worth", 1, no_worths, NoWorth))
        self.look_at_arguments(fresh("go_on"), ("time", 5, TIMES, NoTime))
        self.refused(NoWorth, 64, fresh("hear"), time=1, worth=64)
        self.look_at_arguments(lambda **named: Watch(**named).events(), ("rule", HIGH, no_rules(), NoRule))
        self.assertEqual(len(Watch(rule=("anyname", "anypoint"[:8], *HIGH[2:]))), 0)

    def test_by_chance(self):
        chance = random.Random(52)
        for _ in range(300):
            rule = some_rule(chance)
            history = chances.history(chance, chance.randint(0, 12), last=40, worths=(0, 8, 9, 10, 11, 12, 63))
            watch, told, time = Watch(rule), [], -1
            good = [row for row in history if row[2] == "good"]
            while time < 45:
                came = [row for row in good if row[0] > time]
                stop = came[0][0] - 1 if came else 45
                if stop > time:
                    now = chance.randint(time + 1, stop)
                    rows = watch.go_on(now)
                else:
                    now = came[0][0]
                    rows = watch.hear(now, came[0][1])
                self.assertTrue(all(time < row[1] <= now for row in rows))
                told.extend(rows)
                time = now
                expected = told_by_ticks(rule, history, now)
                self.is_just(watch.events(), expected)
                self.is_just(watch.state(), state_by_ticks(rule, history, now))
                self.assertEqual(len(watch), len(expected))
                words = [row for event in expected for row in zip(("raised", "ended"), event) if row[1] is not None]
                self.is_just(told, words)
                if chance.random() < 0.2:
                    watch = watch.copied()


def some_rule(chance):
    return ("r", "lv", chance.choice(("above", "below")), chance.choice((8, 9, 10, 11)), chance.choice((0, 1, 2, 60)),
            chance.choice((0, 0, 1, 2, 5, 20)), 1)


class EqualTest(PanelCase):
    def watch_of(self, *worths, till=None, rule=HIGH):
        watch = Watch(rule)
        for time, worth in worths:
            watch.hear(time, worth)
        if till is not None:
            watch.go_on(till)
        return watch

    def test_by_what_it_has(self):
        one = self.watch_of((1, 50), (7, 45))
        self.assertTrue(one == self.watch_of((1, 50), (7, 45)))
        self.assertTrue(one == self.watch_of((1, 60), (3, 41), (7, 45)))
        self.assertTrue(one == self.watch_of((0, 3), (1, 50), (7, 45)))
        self.assertFalse(one != self.watch_of((1, 50), (7, 45)))
        for other in (
            self.watch_of((1, 50), (7, 46)), self.watch_of((1, 50), (8, 45)), self.watch_of((2, 50), (7, 45)),
            self.watch_of((1, 50), (7, 45), till=8), self.watch_of((1, 50), (7, 45), rule=("h", *HIGH[1:])),
            self.watch_of((1, 50), (7, 45), rule=(*HIGH[:6], 2)), self.watch_of(), self.watch_of((5, 50), (7, 45)),
        ):
            self.assertFalse(one == other)
            self.assertTrue(one != other)
        self.assertFalse(self.watch_of((5, 50), (7, 45)) == self.watch_of((6, 50), (7, 45)))
        self.assertFalse(self.watch_of() == self.watch_of(till=0))
        self.assertTrue(self.watch_of((7, 5)) == self.watch_of((3, 6), (7, 5)))
        self.assertTrue(self.watch_of((7, 5), till=9) == self.watch_of((8, 5), till=9))

    def test_other_kinds(self):
        for thing in others():
            if not isinstance(thing, Watch):
                self.assertFalse(Watch(HIGH) == thing)
        self.assertIs(type(repr(Watch(HIGH))), str)

    def test_a_copy_goes_its_own_way(self):
        for worths in ((), ((1, 50),), ((1, 50), (7, 45)), ((1, 50), (7, 0))):
            one, kept = self.watch_of(*worths), self.watch_of(*worths)
            copy = one.copied()
            self.assertTrue(copy == one)
            copy.hear(20, 0)
            copy.hear(30, 60)
            copy.go_on(40)
            self.assertTrue(one == kept)
            told = look(copy)
            one.hear(8, 63)
            one.go_on(100)
            self.is_just(look(copy), told)

    def test_told_anew(self):
        watch = self.watch_of((1, 50), (7, 0), till=9)
        self.told_anew(watch.events)


class EventsTest(PanelCase):
    def test_odd_signs_count_for_nothing(self):
        history = [(1, 50, "good"), (2, 0, "odd"), (6, 0, "odd"), (8, 36, "good"), (9, 0, "odd"), (12, 35, "good")]
        self.is_just(events(HIGH, history, 20), [(4, 12)])
        self.is_just(events(HIGH, [(1, 50, "odd")], 20), [])
        self.is_just(state_at(HIGH, history, 3), ("waits", 1))

    def test_till(self):
        history = [(1, 50, "good"), (8, 0, "good"), (20, 41, "good")]
        told = [events(HIGH, history, till) for till in (0, 3, 4, 7, 8, 22, 23, 9999)]
        self.is_just(told, [[], [], [(4, None)], [(4, None)], [(4, 8)], [(4, 8)], [(4, 8), (23, None)],
                            [(4, 8), (23, None)]])
        told = [state_at(HIGH, history, at) for at in (0, 1, 3, 4, 7, 8, 20, 22, 23, 9999)]
        self.is_just(told, [("quiet", None), ("waits", 1), ("waits", 1), ("stands", 4), ("stands", 4), ("quiet", None),
                            ("waits", 20), ("waits", 20), ("stands", 23), ("stands", 23)])
        self.is_just(events(history=(), till=5, rule=HIGH), [])
        self.is_just(state_at(at=5, history=(), rule=HIGH), ("quiet", None))

    def test_by_ticks(self):
        chance = random.Random(54)
        for _ in range(300):
            rule = some_rule(chance)
            history = chances.history(chance, chance.randint(0, 25), worths=(0, 7, 8, 9, 10, 11, 12, 63))
            for till in (0, 5, 17, 40, 61, 90):
                expected = told_by_ticks(rule, history, till)
                self.is_just(events(rule, history, till), expected)
                self.is_just(events(rule, tuple(history), till), expected)
                self.is_just(state_at(rule, history, till), state_by_ticks(rule, history, till))

    def test_a_rest_between_two_events(self):
        chance = random.Random(56)
        for _ in range(100):
            rule = some_rule(chance)
            history = chances.history(chance, 30, worths=(0, 8, 9, 10, 11, 63))
            told = events(rule, history, 90)
            self.assertTrue(all(event[1] is None or event[0] < event[1] for event in told))
            for one, other in itertools.pairwise(told):
                self.assertTrue(any(is_at_rest(rule, worth_at(history, at)) for at in range(one[0] + 1, other[0])))

    def test_long_histories(self):
        history = [(at, 63 * (at & 1), "good") for at in range(500)]
        told = [(at, at + 1) for at in range(1, 499, 2)]
        self.assertEqual(events(("r", "lv", "above", 9, 0, 0, 1), history, 9999), [*told, (499, None)])

    def test_refused(self):
        history = [(1, 50, "good"), (8, 0, "good")]
        for ask, name in ((events, "till"), (state_at, "at")):
            self.look_at_arguments(
                ask, ("rule", HIGH, no_rules(), NoRule), ("history", history, no_histories(), NoHistory),
                (name, 9, TIMES, NoTime),
            )
        self.assertEqual(history, [(1, 50, "good"), (8, 0, "good")])


class ShowsTest(PanelCase):
    HISTORY = [(1, 50, "good"), (8, 0, "good"), (20, 41, "good")]

    def test_the_list_alone(self):
        told = [(4, 8), (23, None)]
        self.assertIs(shows_events(HIGH, self.HISTORY, 30, told), True)
        for thing in (*others(), tuple(told), [[4, 8], (23, None)], [(4, 8), [23, None]], [(4, 8)], [(4, 8), (23, 24)],
                      [(4, 8), (23, None), (30, None)], told[::-1], [(4, 8), (23,)], [(4, True), (23, None)],
                      [(4, 8), (23, False)], [(4, 8, 8), (23, None)], [*told, None], [told]):
            self.assertIs(shows_events(HIGH, self.HISTORY, 30, thing), False)
        self.assertIs(shows_events(HIGH, self.HISTORY, 3, []), True)
        self.assertIs(shows_events(HIGH, self.HISTORY, 3, ()), False)
        self.assertIs(shows_events(thing=[(4, None)], till=4, history=tuple(self.HISTORY), rule=HIGH), True)

    def test_true_and_false_are_no_times(self):
        rule = ("r", "lv", "above", 9, 0, 0, 1)
        history = [(0, 50, "good"), (1, 0, "good")]
        self.assertIs(shows_events(rule, history, 1, [(0, 1)]), True)
        for event in ((False, 1), (0, True), (False, True)):
            self.assertIs(shows_events(rule, history, 1, [event]), False)

    def test_refused(self):
        self.look_at_arguments(
            shows_events, ("rule", HIGH, no_rules(), NoRule), ("history", self.HISTORY, no_histories(), NoHistory),
            ("till", 9, TIMES, NoTime), ("thing", [(4, 8)], [], None),
        )
        for thing in others():
            self.refused(NoTime, True, shows_events, HIGH, self.HISTORY, True, thing)


class HearingTest(PanelCase):
    LETTERS = [
        ("signs", "north", 1, 6, ((1, "lv", 50, "good"),)),
        ("signs", "north", 2, 12, ((8, "lv", 0, "good"),)),
        ("signs", "north", 3, 40, ((20, "lv", 41, "good"), (24, "lv", 0, "odd"))),
    ]

    def test_raised_by(self):
        hearing = Hearing(sample())
        self.is_just(raised_by(hearing, "high", 9999), [])
        hearing.hear(self.LETTERS[2])
        self.is_just(raised_by(hearing, "high", 9999), [(23, None)])
        hearing.hear(self.LETTERS[0])
        self.is_just(raised_by(hearing, "high", 9999), [(4, None)])
        hearing.hear(self.LETTERS[1])
        self.is_just(raised_by(hearing, "high", 9999), [(4, 8), (23, None)])
        self.is_just(raised_by(till=7, name="high", hearing=hearing), [(4, None)])
        self.is_just(raised_by(hearing, "low", 22), [(8, 20)])
        self.is_just(raised_by(hearing, "shut", 9999), [])
        self.is_just(raised_by(PlainRoom(sample(), self.LETTERS), "high", 22), [(4, 8)])

    def test_hands_play_no_part(self):
        hearing = Hearing(sample())
        hearing.hand("lv", 50, 0, 9000)
        self.is_just(raised_by(hearing, "high", 9999), [])
        self.is_just(sure_events(hearing, "high"), [])

    def test_sure_ones(self):
        hearing = Hearing(sample())
        self.is_just(sure_events(hearing, "high"), [])
        for letter, told in zip((self.LETTERS[2], self.LETTERS[0], self.LETTERS[1]),
                                ([], [(4, None)], [(4, 8), (23, None)])):
            hearing.hear(letter)
            self.is_just(sure_events(name="high", hearing=hearing), told)
        self.is_just(sure_events(PlainRoom(sample(), self.LETTERS[:2]), "high"), [(4, 8)])

    def test_sure_just_ahead_of_the_known_time(self):
        for known in range(7):
            hearing = Hearing(sample())
            hearing.hear(("signs", "north", 1, known, ((0, "lv", 50, "good"),)))
            self.is_just(sure_events(hearing, "high"), [(3, None)] if known > 3 else [])
        hearing = Hearing(Works([("lv", "north", "level")], rules=[("r", "lv", "above", 9, 0, 0, 1)]))
        hearing.hear(("signs", "north", 1, 0, ((0, "lv", 50, "good"),)))
        self.is_just(sure_events(hearing, "r"), [])
        self.is_just(raised_by(hearing, "r", 0), [(0, None)])

    def test_refused(self):
        no_hearings = wrong(lambda thing: isinstance(thing, (Hearing, PlainRoom)))
        no_rules = wrong(among(*[rule[0] for rule in RULES]))
        for hearing in (Hearing(sample()), PlainRoom(sample(), self.LETTERS)):
            self.look_at_arguments(
                raised_by, ("hearing", hearing, no_hearings, NoHearing), ("name", "high", no_rules, NoRule),
                ("till", 9, TIMES, NoTime),
            )
            self.look_at_arguments(
                sure_events, ("hearing", hearing, no_hearings, NoHearing), ("name", "high", no_rules, NoRule),
            )

    def test_what_is_sure_stays(self):
        chance = random.Random(55)
        rules = [("one", "p", "above", 30, 5, 2, 1), ("two", "p", "below", 20, 0, 0, 1),
                 ("three", "s", "above", 0, 0, 4, 1)]
        works = Works([("p", "n", "level"), ("s", "m", "switch")], rules=rules)
        for _ in range(40):
            letters = chances.sent(chance, works, 8)
            full = PlainRoom(works, letters)
            hearing, sure = Hearing(works), {rule[0]: [] for rule in rules}
            for letter in chances.mixed(chance, letters):
                hearing.hear(letter)
                for name, point, *_ in rules:
                    known = hearing.known(works.point(point)[1])
                    told = sure_events(hearing, name)
                    expected = [] if not known else events(works.rule(name), hearing.history(point), known - 1)
                    self.is_just(told, expected)
                    for one, other in zip(sure[name], told):
                        self.assertTrue(one == other or (one[1] is None and one[0] == other[0]))
                    self.assertTrue(len(told) >= len(sure[name]))
                    sure[name] = told
                    later = [event for event in raised_by(full, name, 9999) if known and event[0] < known]
                    self.assertEqual([event[0] for event in later], [event[0] for event in told])
                    for one, other in zip(told, later):
                        self.assertTrue(one == other or (one[1] is None and (other[1] is None or other[1] >= known)))
            for name in sure:
                self.is_just(raised_by(hearing, name, 9999), raised_by(full, name, 9999))
                self.is_just(sure_events(hearing, name), sure_events(full, name))


if __name__ == "__main__":
    unittest.main()
