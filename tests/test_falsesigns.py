"""Tests of panelwatch.falsesigns: points 81 to 85, with the relations of points 21 and 24."""

import itertools
import random
import time
import unittest

from panelwatch.errors import NoHistory, NoNumber, NoPicture, NoTime, NoWorks
from panelwatch.falsesigns import broken, named, picture_at, shows_suspects, spans, suspects
from panelwatch.works import Works
from tests import chances
from tests.things import POINTS, PanelCase, others, sample, whole, wrong

NO_WORKS = wrong(lambda thing: isinstance(thing, Works))
NO_TIMES = [*wrong(whole(0, 9999)), True, 10000]
NO_NUMBERS = [*wrong(whole(0, 2)), True, False, 3]
SMALL = [("x", "n", "level"), ("s", "n", "switch"), ("y", "m", "level"), ("t", "m", "switch")]
# The sample's relations: same a b; sum a of b, c, lv; gate lv by v; sum c of lv.
PICTURE = {"lv": 5, "v": 1, "a": 20, "b": 10, "c": 5}
HISTORIES = {"v": [(3, 1, "good"), (9, 0, "odd")], "lv": [(5, 7, "good"), (8, 0, "good")]}


def holds(relation, worths):
    """By the words of point 21."""
    word, first, rest = relation
    if word == "same":
        return worths[first] == worths[rest]
    if word == "sum":
        return worths[first] == sum(worths[name] for name in rest)
    return worths[first] == 0 if worths[rest] == 0 else True


def points_of(relation):
    return [relation[1], *([relation[2]] if type(relation[2]) is str else relation[2])]


def broken_by_words(works, worths):
    return [
        at for at, relation in enumerate(works.relations())
        if all(name in worths for name in points_of(relation)) and not holds(relation, worths)
    ]


def suspects_by_words(works, picture, most):
    names = [name for name, _, _ in works.points() if name in picture]
    for many in range(most + 1):
        told = []
        for points in itertools.combinations(names, many):
            ranges = [range(64 if works.point(name)[2] == "level" else 2) for name in points]
            for worths in itertools.product(*ranges):
                if not broken_by_words(works, {**picture, **dict(zip(points, worths))}):
                    told.append((points, worths))
                    break
        if told:
            return told
    return []


def some_relations(chance, names, switches, many):
    told = []
    for _ in range(many):
        word = chance.choice(("same", "sum", "gate"))
        if word == "sum":
            total, *parts = chance.sample(names, k=chance.randint(2, min(4, len(names))))
            told.append(("sum", total, tuple(parts)))
        else:
            valve = chance.choice(switches if word == "gate" else names)
            told.append((word, chance.choice([name for name in names if name != valve]), valve))
    return told


def no_pictures():
    rows = [*wrong(whole(0, 63)), True, 64, -1]
    keys = ["zz", "north", "high", "", 0, True, None]
    return [
        *[thing for thing in others() if thing not in ({}, {"lv": 1})], *[{"lv": worth} for worth in rows],
        *[{**PICTURE, "v": worth} for worth in (*wrong(whole(0, 1)), True, 2)], *[{key: 1} for key in keys],
        *[{**PICTURE, key: 1} for key in keys], list(PICTURE), list(PICTURE.items()),
    ]


def no_histories():
    good = (3, 1, "good")
    rows = [
        list(good), good[:2], (*good, 1), (True, 1, "good"), (10000, 1, "good"), (-1, 1, "good"), (3, 2, "good"),
        (3, -1, "good"), (3, True, "good"), (3, None, "good"), (3, 1, "fine"), (3, 1, None), 3, None, "good", [], {},
    ]
    lists = [
        *[thing for thing in others() if thing not in ([], ())], *[[row] for row in rows],
        *[(good, row) for row in rows],
        [good, good], [(3, 1, "good"), (3, 0, "good")], [(4, 1, "good"), (3, 1, "good")],
        [(at, at & 1, "good") for at in range(101)], tuple((at, 1, "odd") for at in range(101)), good,
    ]
    keys = ["zz", "north", "high", "", 0, True, None]
    return [
        *[thing for thing in others() if thing != {}], *[{"v": rows} for rows in lists],
        *[{**HISTORIES, "w": rows} for rows in lists[-20:]], *[{key: []} for key in keys],
        *[{**HISTORIES, key: [good]} for key in keys], {"lv": [(3, 64, "good")]}, list(HISTORIES.items()),
    ]


class BrokenTest(PanelCase):
    def test_numbers(self):
        self.is_just(broken(sample(), PICTURE), [0])
        self.is_just(broken(sample(), {**PICTURE, "b": 20, "v": 0}), [1, 2])
        self.is_just(broken(picture={**PICTURE, "c": 6, "b": 9, "v": 0}, works=sample()), [0, 2, 3])
        self.is_just(broken(sample(), {}), [])
        self.is_just(broken(Works(POINTS), PICTURE), [])

    def test_a_point_that_is_not_there(self):
        self.is_just(broken(sample(), {"a": 20, "lv": 5, "c": 5}), [])
        self.is_just(broken(sample(), {"a": 20, "b": 5, "c": 5}), [0])
        self.is_just(broken(sample(), {"lv": 5, "v": 0}), [2])
        self.is_just(broken(sample(), {"v": 0}), [])

    def test_all_of_small_works(self):
        chance = random.Random(81)
        for _ in range(60):
            works = Works(SMALL, relations=some_relations(chance, "xsyt", "st", 5))
            for many in range(5):
                for names in itertools.combinations("xsyt", many):
                    worths = {name: chance.choice((0, 1, 1, 2, 63)) for name in names}
                    picture = {name: min(worth, 1) if name in "st" else worth for name, worth in worths.items()}
                    self.is_just(broken(works, picture), broken_by_words(works, picture))

    def test_refused(self):
        self.look_at_arguments(
            broken, ("works", sample(), NO_WORKS, NoWorks), ("picture", PICTURE, no_pictures(), NoPicture),
        )


class SuspectsTest(PanelCase):
    def test_nothing_broken(self):
        picture = {"lv": 5, "v": 1, "a": 20, "b": 20}
        for most in (0, 1, 2):
            self.is_just(suspects(sample(), picture, most=most), [((), ())])
        self.is_just(suspects(sample(), picture), [((), ())])
        self.is_just(suspects(sample(), {}), [((), ())])
        self.is_just(named(sample(), picture), [])

    def test_one_and_two(self):
        picture = {"a": 20, "b": 10}
        self.is_just(suspects(sample(), picture), [(("a",), (10,)), (("b",), (20,))])
        self.is_just(suspects(sample(), picture, most=1), [(("a",), (10,)), (("b",), (20,))])
        self.is_just(suspects(sample(), picture, most=0), [])
        self.is_just(named(sample(), picture), [])
        picture = {"lv": 3, "v": 0, "a": 20, "b": 10}
        told = [(("lv", "a"), (0, 10)), (("lv", "b"), (0, 20)), (("v", "a"), (1, 10)), (("v", "b"), (1, 20))]
        self.is_just(suspects(most=2, picture=picture, works=sample()), told)
        self.is_just(suspects(sample(), picture, most=1), [])
        self.is_just(named(sample(), picture, most=1), [])
        # Of the sample's relations no two points alone can mend this one.
        self.is_just(suspects(sample(), PICTURE), [])
        self.is_just(named(sample(), PICTURE), [])

    def test_named(self):
        works = Works(POINTS, relations=[("same", "lv", "a"), ("same", "lv", "b"), ("gate", "c", "s")])
        picture = {"b": 4, "a": 4, "lv": 9, "c": 1, "s": 0}
        self.is_just(suspects(works, picture), [(("lv", "c"), (4, 0)), (("lv", "s"), (4, 1))])
        self.is_just(named(works, picture), ["lv"])
        self.is_just(named(works, picture, most=1), [])
        self.is_just(named(works, {"a": 4, "b": 4, "lv": 9}), ["lv"])
        self.is_just(named(picture={"a": 4, "b": 5, "lv": 9}, most=2, works=works), [])
        relations = [("same", "a", "lv"), ("same", "b", "c"), ("sum", "s", ("a",)), ("sum", "w", ("c",))]
        works = Works(POINTS, relations=relations)
        picture = {"a": 9, "lv": 1, "b": 1, "c": 9, "s": 1, "w": 1}
        self.is_just(suspects(works, picture), [(("a", "c"), (1, 1))])
        self.is_just(named(works, picture), ["a", "c"])

    def test_least_worths(self):
        works = Works(POINTS, relations=[("sum", "lv", ("a", "b"))])
        picture = {"lv": 0, "a": 63, "b": 63}
        self.is_just(suspects(works, picture), [(("lv", "a"), (63, 0)), (("lv", "b"), (63, 0)), (("a", "b"), (0, 0))])
        works = Works(POINTS, relations=[("gate", "a", "s"), ("gate", "b", "s"), ("gate", "s", "w")])
        self.is_just(suspects(works, {"a": 1, "b": 1, "s": 0, "w": 0}), [(("a", "b"), (0, 0)), (("s", "w"), (1, 1))])

    def test_worths_at_their_bounds(self):
        works = Works(POINTS, relations=[("sum", "lv", ("a", "b")), ("same", "lv", "c")])
        self.is_just(suspects(works, {"lv": 62, "a": 63, "b": 0, "c": 62}), [(("a",), (62,))])
        self.is_just(suspects(works, {"lv": 63, "a": 0, "b": 0, "c": 63}), [(("a",), (63,)), (("b",), (63,))])
        works = Works(POINTS, relations=[("same", "v", "lv"), ("same", "s", "a")])
        told = [(("lv", "a"), (0, 1)), (("lv", "s"), (0, 0))]
        self.is_just(suspects(works, {"v": 0, "lv": 2, "s": 1, "a": 0}), told)

    def test_by_all_worths(self):
        chance = random.Random(82)
        for _ in range(60):
            relations = some_relations(chance, "xsyt", "st", chance.randint(1, 4))
            works = Works(chance.sample(SMALL, k=4), relations=relations)
            names = chance.sample("xsyt", k=chance.choice((2, 3, 4, 4)))
            picture = {name: chance.randrange(2) if name in "st" else chance.choice((0, 1, 2, 40)) for name in names}
            told = suspects_by_words(works, picture, 2)
            self.is_just(suspects(works, picture), told)
            for most in (0, 1, 2):
                fewer = [row for row in told if len(row[0]) <= most]
                self.is_just(suspects(works, picture, most=most), fewer)
                points = [row[0] for row in fewer]
                row = [name for name, _, _ in works.points() if points and all(name in one for one in points)]
                self.is_just(named(works, picture, most=most), row)
                self.assertIs(shows_suspects(works, picture, fewer, most=most), True)
                self.assertIs(shows_suspects(works, picture, tuple(fewer), most=most), True)

    def test_the_largest_in_time(self):
        points = [(name, "n", "level") for name in "abcdefgh"]
        parts = ("bcd", "acd", "abd", "abc", "abc")
        lists = [
            [("sum", total, tuple(names)) for total, names in zip("abcde", parts)],
            [("same", "a", "b"), ("same", "c", "d"), ("same", "e", "f"), ("same", "g", "h"),
             ("sum", "h", ("a", "b", "c"))],
            [("sum", "a", ("b", "c", "d"))] * 5,
        ]
        for relations in lists:
            works = Works(points, relations=relations)
            for worths in ((63,) * 8, (0, 63, 63, 63, 0, 63, 0, 63), (1, 2, 3, 5, 8, 13, 21, 34)):
                picture = dict(zip("abcdefgh", worths))
                began = time.perf_counter()
                told = suspects(works, picture)
                self.assertIs(shows_suspects(works, picture, told), True)
                named(works, picture)
                self.assertLess(time.perf_counter() - began, 4)

    def test_refused(self):
        for ask in (suspects, named):
            self.look_at_arguments(
                ask, ("works", sample(), NO_WORKS, NoWorks), ("picture", PICTURE, no_pictures(), NoPicture),
                ("most", 1, NO_NUMBERS, NoNumber),
            )
        self.look_at_arguments(
            shows_suspects, ("works", sample(), NO_WORKS, NoWorks), ("picture", PICTURE, no_pictures(), NoPicture),
            ("thing", [], [], None), ("most", 1, NO_NUMBERS, NoNumber),
        )

    def test_told_anew_and_handed_in_stays(self):
        picture = dict(PICTURE)
        for ask in (broken, suspects, named):
            self.told_anew(lambda: ask(sample(), picture))
        shows_suspects(sample(), picture, [(("b",), (20,))])
        self.assertEqual(list(picture.items()), list(PICTURE.items()))


class ShowsTest(PanelCase):
    WORKS = Works(POINTS, relations=[("gate", "a", "s"), ("same", "lv", "b")])
    PICTURE = {"a": 1, "s": 0, "lv": 3, "b": 4}

    def test_any_worths_by_which_it_is_mended(self):
        works = Works(POINTS, relations=[("sum", "a", ("b", "c"))] * 2 + [("gate", "lv", "v"), ("gate", "a", "v")])
        picture = {"a": 0, "b": 40, "c": 40, "v": 1}
        told = [(("a", "b"), (40, 0)), (("a", "c"), (40, 0)), (("b", "c"), (0, 0))]
        self.is_just(suspects(works, picture), told)
        for worth in range(30):
            rows = [(("a", "b"), (40 + worth, worth)), (("a", "c"), (63 - worth, 23 - worth)), (("b", "c"), (0, 0))]
            self.assertIs(shows_suspects(works, picture, rows), worth < 24)
            self.assertIs(shows_suspects(works, picture, [*told[:2], (("b", "c"), (worth, 0))]), worth == 0)

    def test_worths_of_a_pair_that_is_alike(self):
        works = Works(POINTS, relations=[("gate", "a", "s"), ("gate", "b", "s"), ("same", "lv", "c")])
        picture = {"a": 5, "b": 0, "s": 0, "lv": 3, "c": 4}
        told = [(("lv", "a"), (4, 0)), (("lv", "s"), (4, 1)), (("a", "c"), (0, 3)), (("c", "s"), (3, 1))]
        self.is_just(suspects(works, picture), told)
        self.assertIs(shows_suspects(works, picture, told), True)
        for worths in ((4, 1), (3, 0), (0, 4)):
            self.assertIs(shows_suspects(works, picture, [(("lv", "a"), worths), *told[1:]]), False)

    def test_no_such_lists(self):
        told = suspects(self.WORKS, self.PICTURE)
        self.assertEqual([row[0] for row in told], [("lv", "a"), ("lv", "s"), ("a", "b"), ("b", "s")])
        self.assertIs(shows_suspects(thing=told, most=2, picture=self.PICTURE, works=self.WORKS), True)
        first = told[0]
        rows = [
            list(first), (list(first[0]), first[1]), (first[0], list(first[1])), (first[0][::-1], first[1][::-1]),
            first[:1], (*first, 1), (first[0], first[1][:1]), (first[0], (*first[1], 1)), (first[0], (64, 0)),
            (first[0], (4, -1)),
            (first[0], (4, False)), (first[0], (4, None)), (first[0], ("4", 0)), (first[0], (5, 0)), (first[0], None),
            (("lv",), (4,)), ((), ()), (None, first[1]), (("lv", True), (4, 0)), *others(),
        ]
        for row in rows:
            with self.subTest(row=repr(row)[:60]):
                self.assertIs(shows_suspects(self.WORKS, self.PICTURE, [row, *told[1:]]), False)
        for thing in (*others(), told[::-1], told[1:], told[:-1], [*told, told[0]], dict(told), [told], [((), ())]):
            self.assertIs(shows_suspects(self.WORKS, self.PICTURE, thing), False)
            self.assertIs(shows_suspects(self.WORKS, self.PICTURE, thing, most=1), thing in ([], ()))

    def test_true_is_no_worth(self):
        row = (("lv", "s"), (4, 1))
        told = suspects(self.WORKS, self.PICTURE)
        self.assertEqual(told[1], row)
        self.assertIs(shows_suspects(self.WORKS, self.PICTURE, [told[0], (row[0], (4, True)), *told[2:]]), False)

    def test_the_set_of_none(self):
        for thing in others():
            self.assertIs(shows_suspects(self.WORKS, {}, thing), False)
        for thing, told in (([((), ())], True), ((((), ()),), True), ([([], ())], False), ([((), [])], False),
                            ([[(), ()]], False), ([], False), ((), False)):
            self.assertIs(shows_suspects(self.WORKS, {}, thing), told)


class PictureAtTest(PanelCase):
    def test_good_ones_alone(self):
        told = [picture_at(sample(), HISTORIES, at) for at in (0, 3, 4, 5, 8, 9, 9999)]
        self.is_just(told, [{}, {"v": 1}, {"v": 1}, {"lv": 7, "v": 1}, {"lv": 0, "v": 1}, {"lv": 0}, {"lv": 0}])
        rows = {name: tuple(rows) for name, rows in HISTORIES.items()}
        self.is_just(picture_at(time=5, histories=rows, works=sample()), {"lv": 7, "v": 1})
        self.is_just(picture_at(sample(), {}, 5), {})
        self.is_just(picture_at(sample(), {"lv": [], "v": ()}, 5), {})

    def test_in_the_works_order(self):
        histories = {name: [(0, 1, "good")] for name, _, _ in reversed(POINTS)}
        self.assertEqual(list(picture_at(sample(), histories, 0)), [name for name, _, _ in POINTS])

    def test_a_hundred_signs(self):
        histories = {"lv": [(at * 99, at & 63, "good") for at in range(100)]}
        for at in (0, 98, 99, 5000, 9801, 9999):
            self.is_just(picture_at(sample(), histories, at), {"lv": min(at // 99, 99) & 63})

    def test_refused(self):
        self.look_at_arguments(
            picture_at, ("works", sample(), NO_WORKS, NoWorks), ("histories", HISTORIES, no_histories(), NoHistory),
            ("time", 5, NO_TIMES, NoTime),
        )
        self.look_at_arguments(
            spans, ("works", sample(), NO_WORKS, NoWorks), ("histories", HISTORIES, no_histories(), NoHistory),
            ("since", 5, NO_TIMES, NoTime), ("till", 9, NO_TIMES, NoTime),
        )


class SpansTest(PanelCase):
    WORKS = Works(POINTS, relations=[("gate", "lv", "v"), ("same", "a", "b")])

    def test_some(self):
        histories = {
            "lv": [(2, 5, "good"), (9, 6, "good"), (12, 0, "good"), (20, 1, "odd"), (22, 1, "good")],
            "v": [(4, 0, "good"), (14, 0, "good")], "a": [(0, 1, "good"), (11, 2, "good")], "b": [(0, 1, "good")],
        }
        told = [(4, 10, (0,)), (11, 11, (0, 1)), (12, 21, (1,)), (22, 30, (0, 1))]
        self.is_just(spans(self.WORKS, histories, 0, 30), told)
        self.is_just(spans(self.WORKS, histories, 4, 30), told)
        self.is_just(spans(self.WORKS, histories, 5, 12), [(5, 10, (0,)), (11, 11, (0, 1)), (12, 12, (1,))])
        self.is_just(spans(till=11, since=11, histories=histories, works=self.WORKS), [(11, 11, (0, 1))])
        self.is_just(spans(self.WORKS, histories, 0, 3), [])
        self.is_just(spans(self.WORKS, histories, 12, 11), [])
        self.is_just(spans(self.WORKS, histories, 9999, 0), [])
        self.is_just(spans(self.WORKS, histories, 30, 9999), [(30, 9999, (0, 1))])
        self.is_just(spans(self.WORKS, {}, 0, 9999), [])

    def test_a_break_parts_two_spans(self):
        histories = {"a": [(0, 1, "good"), (5, 2, "good"), (6, 1, "good"), (8, 2, "odd"), (9, 1, "good")],
                     "b": [(0, 2, "good")]}
        self.is_just(spans(self.WORKS, histories, 0, 10), [(0, 4, (1,)), (6, 7, (1,)), (9, 10, (1,))])

    def test_tick_by_tick(self):
        chance = random.Random(85)
        for _ in range(120):
            works = Works(SMALL, relations=some_relations(chance, "xsyt", "st", chance.randint(0, 5)))
            names = chance.sample("xsyt", k=chance.randint(0, 4))
            histories = {
                name: chances.history(chance, chance.randint(0, 15), last=40, worths=(0, 1)) for name in names
            }
            since, till = chance.randint(0, 45), chance.randint(0, 60)
            told = []
            for tick in range(since, till + 1):
                numbers = tuple(broken_by_words(works, picture_at(works, histories, tick)))
                if told and told[-1][1] == tick - 1 and told[-1][2] == numbers:
                    told[-1] = (told[-1][0], tick, numbers)
                elif numbers:
                    told.append((tick, tick, numbers))
            self.is_just(spans(works, histories, since, till), told)

    def test_pictures_by_the_words(self):
        chance = random.Random(84)
        for _ in range(60):
            works = Works(SMALL)
            histories = {name: chances.history(chance, chance.randint(0, 15), last=40, worths=(0, 1))
                         for name in chance.sample("xsyt", k=chance.randint(0, 4))}
            for tick in range(0, 45, 3):
                told = {}
                for name in "xsyt":
                    rows = [row for row in histories.get(name, []) if row[0] <= tick]
                    if rows and rows[-1][2] == "good":
                        told[name] = rows[-1][1]
                self.is_just(picture_at(works, histories, tick), told)

    def test_the_largest_in_time(self):
        points = [(name, "n", "level") for name in "abcdefgh"]
        works = Works(points, relations=[("sum", "a", ("b", "c", "d")), ("same", "e", "f"), ("same", "g", "h"),
                                         ("sum", "e", ("f", "g", "h")), ("same", "a", "h")])
        chance = random.Random(8)
        histories = {name: chances.history(chance, 100, last=9999, worths=(0, 1)) for name in "abcdefgh"}
        began = time.perf_counter()
        told = spans(works, histories, 0, 9999)
        self.assertLess(time.perf_counter() - began, 2)
        for first, last, numbers in told:
            for tick in (first, last):
                self.assertEqual(tuple(broken(works, picture_at(works, histories, tick))), numbers)

    def test_told_anew_and_handed_in_stays(self):
        histories = {name: list(rows) for name, rows in HISTORIES.items()}
        works = Works(POINTS, relations=[("gate", "v", "s"), ("same", "lv", "v")])
        self.assertTrue(spans(works, histories, 0, 20))
        self.told_anew(lambda: spans(works, histories, 0, 20))
        self.told_anew(lambda: picture_at(works, histories, 6))
        self.assertEqual(list(histories.items()), list(HISTORIES.items()))


if __name__ == "__main__":
    unittest.main()
