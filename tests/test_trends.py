"""Tests of panelwatch.trends: points 71 to 74."""

import itertools
import random
import time
import unittest

from panelwatch.errors import NoHistory, NoLetter, NoList, NoNumber, NoPoint, NoTime, NoTruth, NoWorks, TooMany, Unlike
from panelwatch.trends import Trend, coarse, coarse_of, fine
from panelwatch.works import Works
from tests import chances
from tests.test_alarms import no_histories
from tests.things import POINTS, PanelCase, among, no_signs, others, sample, whole, wrong

NAMES = [row[0] for row in POINTS]
NO_TIMES = [*wrong(whole(0, 9999)), True, 10000]
NO_SIZES = [*wrong(whole(1, 400)), True, 0, 401]
NO_TRUTHS = wrong(lambda thing: type(thing) is bool)
HISTORY = [(3, 10, "good"), (5, 20, "odd"), (8, 5, "good")]


def fine_by_words(history, since, till, odd):
    told = []
    for tick in range(since, till + 1):
        rows = [row for row in history if row[0] <= tick and (odd or row[2] == "good")]
        told.extend([(tick, rows[-1][1])] if rows else [])
    return told


def coarse_by_words(rows, size):
    told = []
    for start in range(0, 10000, size):
        worths = [worth for tick, worth in rows if start <= tick < start + size]
        if worths:
            told.append((start, len(worths), sum(worths), min(worths), max(worths)))
    return told


def no_rows():
    """Things that are no fine rows."""
    good = (3, 50)
    rows = [
        *others(), list(good), good[:1], (*good, 1), (True, 50), (3, True), (10000, 50), (-1, 50), (3, 64), (3, -1),
        (3, None), (None, 50), ("3", 50),
    ]
    rows = [row for row in rows if row != (0, 1)]
    return [
        *[thing for thing in others() if thing not in ([], ())], *[[row] for row in rows],
        *[[good, row] for row in rows[-11:]],
        [good, good], [(3, 1), (3, 2)], [(4, 1), (3, 1)], ((1, 1), (5, 1), (4, 1)), good, [(3, 50, "good")],
    ]


class FineTest(PanelCase):
    def test_a_worth_for_each_tick(self):
        self.is_just(fine(HISTORY, 2, 9), [(3, 10), (4, 10), (5, 20), (6, 20), (7, 20), (8, 5), (9, 5)])
        self.is_just(fine(HISTORY, 4, 6, odd=False), [(4, 10), (5, 10), (6, 10)])
        self.is_just(fine(tuple(HISTORY), 0, 2), [])
        self.is_just(fine(HISTORY, 3, 3), [(3, 10)])
        self.is_just(fine(HISTORY, 9999, 9999), [(9999, 5)])
        self.is_just(fine([], 0, 9), [])
        self.is_just(fine((), 0, 9), [])
        self.is_just(fine(odd=False, till=6, since=5, history=[(5, 1, "odd")]), [])

    def test_windows(self):
        self.assertEqual(len(fine(HISTORY, 3, 1002)), 1000)
        self.assertEqual(len(fine(HISTORY, 9000, 9999)), 1000)
        for since, till in ((3, 1003), (0, 1000), (8999, 9999)):
            self.refused(TooMany, 1001, fine, HISTORY, since, till)
            self.refused(TooMany, 1001, coarse, HISTORY, 5, since, till)
        self.refused(TooMany, 10000, fine, HISTORY, 0, 9999)
        for since, till in ((5, 4), (9999, 0), (1, 0)):
            self.is_just(fine(HISTORY, since, till), [])
            self.is_just(coarse(HISTORY, 5, since, till), [])

    def test_by_the_words(self):
        chance = random.Random(72)
        for _ in range(150):
            history = chances.history(chance, chance.randint(0, 30))
            since, till, size = chance.randint(0, 70), chance.randint(0, 90), chance.choice((1, 2, 3, 7, 20, 50, 400))
            for odd in (True, False):
                rows = fine_by_words(history, since, till, odd)
                self.is_just(fine(history, since, till, odd=odd), rows)
                self.is_just(coarse_of(rows, size), coarse_by_words(rows, size))
                self.is_just(coarse(history, size, since, till, odd=odd), coarse_by_words(rows, size))
            self.is_just(fine(history, since, till), fine(history, since, till, odd=True))
            self.is_just(coarse(history, size, since, till), coarse(history, size, since, till, odd=True))

    def test_refused(self):
        self.look_at_arguments(
            fine, ("history", HISTORY, no_histories(), NoHistory), ("since", 2, NO_TIMES, NoTime),
            ("till", 9, NO_TIMES, NoTime), ("odd", True, NO_TRUTHS, NoTruth),
        )
        self.refused(NoTruth, None, fine, HISTORY, 0, 5000, odd=None)
        self.refused(NoTime, 10000, fine, HISTORY, 0, 10000)

    def test_told_anew_and_handed_in_stays(self):
        history = list(HISTORY)
        self.told_anew(lambda: fine(history, 2, 9))
        self.told_anew(lambda: coarse(history, 4, 2, 9))
        self.assertEqual(history, HISTORY)


class CoarseTest(PanelCase):
    def test_stretches_begin_at_multiples(self):
        rows = [(3, 10), (4, 10), (5, 20), (6, 20), (7, 0), (20, 63)]
        self.is_just(coarse_of(rows, 5), [(0, 2, 20, 10, 10), (5, 3, 40, 0, 20), (20, 1, 63, 63, 63)])
        self.is_just(coarse_of(rows, 1), [(tick, 1, worth, worth, worth) for tick, worth in rows])
        self.is_just(coarse_of(tuple(rows), 400), [(0, 6, 123, 0, 63)])
        self.is_just(coarse_of(size=7, rows=rows), [(0, 4, 60, 10, 20), (7, 1, 0, 0, 0), (14, 1, 63, 63, 63)])
        self.is_just(coarse_of([], 7), [])
        self.is_just(coarse_of([(9999, 1)], 400), [(9600, 1, 1, 1, 1)])
        self.is_just(coarse_of([(399, 1), (400, 2), (799, 3), (800, 4)], 400),
                     [(0, 1, 1, 1, 1), (400, 2, 5, 2, 3), (800, 1, 4, 4, 4)])

    def test_a_thousand_rows(self):
        rows = [(tick, tick & 63) for tick in range(5, 1005)]
        for size in (1, 2, 399, 400):
            self.is_just(coarse_of(rows, size), coarse_by_words(rows, size))

    def test_refused(self):
        self.look_at_arguments(
            coarse_of, ("rows", [(3, 50), (5, 2)], no_rows(), NoList), ("size", 5, NO_SIZES, NoNumber),
        )
        self.look_at_arguments(
            coarse, ("history", HISTORY, no_histories(), NoHistory), ("size", 5, NO_SIZES, NoNumber),
            ("since", 2, NO_TIMES, NoTime), ("till", 9, NO_TIMES, NoTime), ("odd", True, NO_TRUTHS, NoTruth),
        )
        self.refused(NoTruth, 1, coarse, HISTORY, 5, 0, 5000, odd=1)
        rows = [[3, 50]]
        self.refused(NoList, rows, coarse_of, rows, 5)
        self.assertEqual(rows, [[3, 50]])


def signs(number, sent, *rows, place="north"):
    return ("signs", place, number, sent, rows)


def trend_of(*letters, point="lv", size=5, since=0, till=20, odd=True, works=None):
    trend = Trend(works or sample(), point, size, since, till, odd=odd)
    for letter in letters:
        trend.hear(letter)
    return trend


def look(trend):
    return trend.rows(), trend.fine(), trend.heard()


class TrendTest(PanelCase):
    def test_whether_its_rows_have_changed(self):
        trend = trend_of()
        self.is_just(look(trend), ([], [], []))
        self.assertIs(trend.hear(signs(2, 30, (18, "lv", 7, "good"))), True)
        self.is_just(look(trend), ([(15, 2, 14, 7, 7), (20, 1, 7, 7, 7)], [(18, 7), (19, 7), (20, 7)], [2]))
        self.assertIs(trend.hear(signs(2, 30, (18, "lv", 7, "good"))), False)
        self.assertIs(trend.hear(signs(3, 40, (20, "lv", 7, "odd"))), False)
        self.assertIs(trend.hear(signs(4, 40, (21, "lv", 9, "odd"))), False)
        self.assertIs(trend.hear(signs(5, 40, (20, "v", 1, "odd"))), False)
        self.assertIs(trend.hear(signs(6, 40)), False)
        self.assertIs(trend.hear(signs(1, 30, (17, "lv", 0, "good"))), True)
        self.is_just(trend.rows(), [(15, 3, 14, 0, 7), (20, 1, 7, 7, 7)])
        self.assertIs(trend.hear(letter=signs(7, 30, (19, "lv", 6, "good"), (20, "lv", 8, "good"))), True)
        self.is_just(trend.fine(), [(17, 0), (18, 7), (19, 6), (20, 8)])
        self.is_just(trend.heard(), [1, 2, 3, 4, 5, 6, 7])

    def test_fine_rows_may_change_alone(self):
        trend = trend_of(signs(1, 9, (0, "lv", 1, "good"), (1, "lv", 2, "good"), (2, "lv", 1, "good")), till=2)
        self.assertIs(trend.hear(signs(2, 9, (0, "lv", 2, "good"), (1, "lv", 1, "good"))), False)
        self.is_just(trend.fine(), [(0, 2), (1, 1), (2, 1)])

    def test_signs_of_one_time(self):
        letters = [
            signs(1, 9, (3, "lv", 1, "good"), (3, "lv", 2, "good"), (4, "lv", 3, "good")),
            signs(2, 9, (3, "lv", 4, "good"), (4, "lv", 5, "odd"), (6, "lv", 6, "good"), (6, "lv", 7, "odd")),
            signs(10, 9, (6, "lv", 8, "good"), (8, "lv", 9, "odd"), (8, "lv", 10, "good")),
        ]
        for turned in itertools.permutations(letters):
            self.is_just(trend_of(*turned, size=1, till=8).fine(), [(3, 4), (4, 5), (5, 5), (6, 8), (7, 8), (8, 10)])
            self.is_just(trend_of(*turned, size=1, till=8, odd=False).fine(),
                         [(3, 4), (4, 4), (5, 4), (6, 8), (7, 8), (8, 10)])
        self.is_just(trend_of(*letters[:2], till=8, odd=False).fine(), [(tick, 4) for tick in range(3, 9)])

    def test_an_odd_one_of_a_greater_number_leaves_a_good_one_out(self):
        good, odd = signs(1, 9, (3, "lv", 1, "good")), signs(2, 9, (3, "lv", 2, "odd"))
        trend = trend_of(good, odd=False, till=5)
        self.is_just(trend.fine(), [(3, 1), (4, 1), (5, 1)])
        self.assertIs(trend.hear(odd), True)
        self.is_just(trend.fine(), [])
        self.is_just(trend_of(odd, good, odd=False).fine(), [])

    def test_letters_need_not_fit(self):
        trend = trend_of(signs(1, 9, (9, "lv", 1, "good")))
        self.assertIs(trend.hear(signs(2, 3, (2, "lv", 5, "good"))), True)
        self.is_just(trend.heard(), [1, 2])
        self.is_just(trend.fine()[:1], [(2, 5)])

    def test_other_places_play_no_part(self):
        trend = trend_of(signs(1, 9, (3, "lv", 1, "good")))
        kept = look(trend)
        one = signs(1, 9, (3, "a", 1, "good"), place="east")
        for letter in (one, signs(1, 8, place="east"), signs(2, 8, place="dam")):
            self.assertIs(trend.hear(letter), False)
            self.assertEqual(look(trend), kept)
        self.assertTrue(trend == trend_of(signs(1, 9, (3, "lv", 1, "good"))))

    def test_by_the_words_in_whatever_order(self):
        chance = random.Random(73)
        for _ in range(60):
            works = sample()
            letters = chances.sent(chance, works, 10)
            point = chance.choice(NAMES)
            place = works.point(point)[1]
            since, till, size = chance.randint(0, 30), chance.randint(0, 60), chance.choice((1, 3, 8, 40))
            odd = chance.random() < 0.5
            trend = trend_of(point=point, size=size, since=since, till=till, odd=odd, works=works)
            heard = []
            for letter in chances.mixed(chance, letters):
                ahead = trend.rows()
                self.assertIs(trend.hear(letter), trend.rows() != ahead)
                heard.extend([letter] if letter[1] == place and letter not in heard else [])
                rows = sorted(heard, key=lambda letter: letter[2])
                latest = {row[0]: (row[0], row[2], row[3]) for letter in rows for row in letter[4] if row[1] == point}
                told = fine_by_words([latest[at] for at in sorted(latest)], since, till, odd)
                self.is_just(look(trend), (coarse_by_words(told, size), told, [letter[2] for letter in rows]))
                if chance.random() < 0.2:
                    trend = trend.copied()
            self.assertTrue(trend == trend_of(*letters, point=point, size=size, since=since, till=till, odd=odd))

    def test_refused(self):
        self.look_at_arguments(
            Trend, ("works", sample(), wrong(lambda thing: isinstance(thing, Works)), NoWorks),
            ("point", "lv", wrong(among(*NAMES)), NoPoint), ("size", 5, NO_SIZES, NoNumber),
            ("since", 2, NO_TIMES, NoTime), ("till", 9, NO_TIMES, NoTime), ("odd", True, NO_TRUTHS, NoTruth),
        )
        self.refused(TooMany, 1001, Trend, sample(), "lv", 5, 0, 1000)
        self.refused(NoTruth, 0, Trend, sample(), "lv", 5, 0, 1000, odd=0)
        self.assertEqual(Trend(sample(), "lv", 400, 9000, 9999).rows(), [])
        self.assertEqual(Trend(sample(), "lv", 400, 9, 8).fine(), [])

    def test_letters_refused(self):
        one = signs(2, 7, (3, "lv", 40, "good"), (3, "v", 1, "good"))
        trend = trend_of(one)
        for thing in no_signs():
            with self.subTest(thing=repr(thing)[:60]):
                self.stays(lambda: (look(trend), trend == trend_of(one)), NoLetter, thing, trend.hear, thing)
        for letter in (signs(2, 7, one[4][0]), signs(2, 8, *one[4]), signs(2, 7), signs(2, 7, *one[4][::-1])):
            self.stays(lambda: (look(trend), trend == trend_of(one)), Unlike, letter, trend.hear, letter)
        self.assertIs(trend.hear(one), False)

    def test_forty_letters_of_twelve_signs(self):
        letters = []
        for number in range(1, 41):
            rows = [(number * 24 - 23 + at * 2, "lv", (number * at) % 64, "good") for at in range(12)]
            letters.append(signs(number, number * 24, *rows))
        random.Random(9).shuffle(letters)
        began = time.perf_counter()
        trend = trend_of(*letters, size=1, since=0, till=999)
        self.assertEqual((len(trend.fine()), len(trend.rows())), (999, 999))
        self.assertLess(time.perf_counter() - began, 3)


class EqualTest(PanelCase):
    ONE, TWO = signs(1, 9, (3, "lv", 1, "good")), signs(2, 9, (5, "v", 1, "odd"))

    def test_by_what_was_heard(self):
        self.assertTrue(trend_of(self.ONE, self.TWO) == trend_of(self.TWO, self.ONE, self.TWO))
        self.assertFalse(trend_of(self.ONE, self.TWO) != trend_of(self.TWO, self.ONE, self.TWO))
        self.assertFalse(trend_of(self.ONE) == trend_of(self.ONE, self.TWO))
        self.assertFalse(trend_of(self.ONE) == trend_of(signs(1, 9, (3, "lv", 1, "odd"))))
        self.assertFalse(trend_of() == trend_of(signs(1, 0)))

    def test_by_what_it_is_made_of(self):
        one = trend_of()
        self.assertTrue(one == trend_of())
        for named in ({"point": "v"}, {"size": 4}, {"since": 1}, {"till": 19}, {"odd": False}):
            self.assertFalse(one == trend_of(**named))
            self.assertTrue(one != trend_of(**named))
        for works in chances.other_works():
            self.assertFalse(one == trend_of(works=works))

    def test_other_kinds(self):
        for thing in others():
            if not isinstance(thing, Trend):
                self.assertFalse(trend_of() == thing)
        self.assertIs(type(repr(trend_of())), str)

    def test_a_copy_goes_its_own_way(self):
        one = trend_of(self.ONE, odd=False, size=3)
        kept = look(one)
        copy = one.copied()
        self.assertTrue(one == copy)
        copy.hear(signs(3, 9, (4, "lv", 9, "good")))
        self.assertEqual(look(one), kept)
        told = look(copy)
        one.hear(signs(3, 9, (5, "lv", 8, "good")))
        self.assertEqual(look(copy), told)
        self.assertTrue(one.copied() == one)
        self.assertFalse(one == copy)

    def test_told_anew(self):
        trend = trend_of(self.ONE, self.TWO)
        for ask in (trend.rows, trend.fine, trend.heard):
            self.told_anew(ask)


if __name__ == "__main__":
    unittest.main()
