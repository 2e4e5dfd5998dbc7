"""Tests of panelwatch.letters: points 31 and 32, with the signs of point 3."""

import itertools
import random
import unittest

from panelwatch.errors import NoLetter, NoList, NoPoint, NoWorks, Unlike
from panelwatch.letters import in_order, is_letter, is_order, is_sign, is_signs, rows_of
from panelwatch.works import Works
from tests.things import COMMANDS, POINTS, PanelCase, among, others, sample, whole, wrong

TIME, TERM = whole(0, 9999), whole(0, 999)
PLACE, COMMAND = among("north", "east", "dam"), among("open", "fill", "drain")
POINT = among(*[row[0] for row in POINTS])
EDGES = [*range(-2, 4), 39, 40, 41, 62, 63, 64, 998, 999, 1000, 9998, 9999, 10000, 10001, (0, 1), (999, 999), (3, 0)]
NO_WORKS = wrong(lambda thing: isinstance(thing, Works))


def ident(thing):
    return isinstance(thing, tuple) and len(thing) == 2 and TERM(thing[0]) and whole(1, 999)(thing[1])


ROWS = ((3, "lv", 40, "good"), (3, "v", 1, "odd"), (7, "lv", 0, "good"))
SIGNS = ("signs", "north", 2, 7, ROWS)
# The letters' forms: a good one of each, and of each of its things, but the rows, the test for what may stand there.
ORDERS = [
    (("do", (4, 1), "open"), (among("do"), ident, COMMAND)),
    (("back", (4, 1)), (among("back"), ident)),
    (("term", 5), (among("term"), TERM)),
]
TELLING = [
    (("terms", "north", 5, 30), (among("terms"), PLACE, TERM, TIME)),
    (("answer", "north", (4, 1), "done", 5, 30), (among("answer"), PLACE, ident, among("done", "refused"), TERM, TIME)),
]


class FormsTest(PanelCase):
    def all_say(self, thing, signs=False, order=False, letter=False):
        works = sample()
        for _ in range(2):
            self.assertIs(is_signs(works, thing), signs)
            self.assertIs(is_order(works, thing), order)
            self.assertIs(is_letter(works, thing), letter)

    def test_one_of_each(self):
        self.all_say(SIGNS, signs=True, letter=True)
        for letter, _ in ORDERS:
            self.all_say(letter, order=True, letter=True)
        for letter, _ in TELLING:
            self.all_say(letter, letter=True)
        self.all_say(("answer", "dam", (0, 999), "refused", 0, 0), letter=True)

    def test_other_things_are_no_letters(self):
        for thing in others():
            self.all_say(thing)

    def test_lists_and_other_lengths_are_no_letters(self):
        for letter in [SIGNS, *[row[0] for row in [*ORDERS, *TELLING]]]:
            for thing in (list(letter), letter[:-1], (*letter, 1), (letter,), letter[:1], letter[1:], {0: letter}):
                self.all_say(thing)

    def test_each_thing_of_each_letter(self):
        for letters, order in ((ORDERS, True), (TELLING, False)):
            for good, tests in letters:
                for at, fits in enumerate(tests):
                    for thing in [*others(), *EDGES]:
                        with self.subTest(letter=good[0], at=at, thing=repr(thing)[:60]):
                            right = fits(thing)
                            letter = (*good[:at], thing, *good[at + 1:])
                            self.all_say(letter, order=order and right, letter=right)

    def test_words_of_other_forms(self):
        self.all_say(("back", 5))
        self.all_say(("term", (4, 1)))
        self.all_say(("do", (4, 1), "lv"))
        self.all_say(("do", 4, "open"))
        self.all_say(("back", (4, 1), "open"))
        self.all_say(("answer", "lv", (4, 1), "done", 5, 30))
        self.all_say(("answer", "north", (4, 1), "asked", 5, 30))

    def test_wrong_works(self):
        for ask in (is_sign, is_signs, is_order, is_letter):
            for thing in (None, SIGNS, ROWS[0], ("do", (4, 1), "open"), []):
                self.look_at_arguments(ask, ("works", sample(), NO_WORKS, NoWorks), ("thing", thing, [], None))

    def test_by_the_works_that_are_handed_in(self):
        works = Works([("lv", "far", "switch")], commands=[("go", "lv", 1, ())])
        self.assertIs(is_letter(works, ("do", (0, 1), "go")), True)
        self.assertIs(is_letter(works, ("do", (0, 1), "open")), False)
        self.assertIs(is_signs(works, ("signs", "far", 1, 5, ((5, "lv", 1, "good"),))), True)
        self.assertIs(is_signs(works, ("signs", "far", 1, 5, ((5, "lv", 2, "good"),))), False)
        self.assertIs(is_sign(works, (5, "lv", 2, "good")), False)
        self.assertIs(is_sign(sample(), (5, "lv", 2, "good")), True)
        self.assertIs(is_signs(works, ("signs", "north", 1, 5, ())), False)


class SignsTest(PanelCase):
    def test_each_thing_of_a_sign(self):
        works = sample()
        for good, most in (((3, "lv", 40, "odd"), 63), ((3, "v", 1, "odd"), 1), ((3, "a", 0, "good"), 63)):
            tests = (TIME, None, whole(0, most), among("good", "odd"))
            for at, fits in enumerate(tests):
                for thing in [*others(), *EDGES, *[row[0] for row in POINTS]]:
                    sign = (*good[:at], thing, *good[at + 1:])
                    right = POINT(thing) and (good[2] < 2 or thing not in ("v", "s", "w")) if at == 1 else fits(thing)
                    with self.subTest(sign=repr(sign)[:60]):
                        self.assertIs(is_sign(works, sign), right)

    def test_signs_of_all_places(self):
        for name, _, kind in POINTS:
            for worth in range(-1, 66):
                for mark in ("good", "odd"):
                    right = 0 <= worth <= (63 if kind == "level" else 1)
                    self.assertIs(is_sign(sample(), (0, name, worth, mark)), right)

    def test_no_signs(self):
        good = (3, "lv", 40, "good")
        near = [list(good), good[:3], (*good, 1), (good,), (True, "lv", 1, "good"), (3, "lv", True, "odd")]
        for thing in [*others(), *near]:
            self.assertIs(is_sign(sample(), thing), False)

    def test_each_thing_of_a_letter_with_signs(self):
        tests = (among("signs"), among("north"), whole(1, 40), whole(7, 9999))
        for at, fits in enumerate(tests):
            for thing in [*others(), *EDGES, 6, 7, 8]:
                letter = (*SIGNS[:at], thing, *SIGNS[at + 1:])
                with self.subTest(at=at, thing=repr(thing)[:60]):
                    self.assertIs(is_signs(sample(), letter), fits(thing))
                    self.assertIs(is_letter(sample(), letter), fits(thing))

    def test_without_signs(self):
        for place, number, time in itertools.product(("north", "east", "dam", "lv", "zz"), EDGES, EDGES):
            right = PLACE(place) and whole(1, 40)(number) and TIME(time)
            self.assertIs(is_signs(sample(), ("signs", place, number, time, ())), right)

    def test_rows_are_a_tuple_of_signs(self):
        for thing in others():
            self.assertIs(is_signs(sample(), ("signs", "north", 2, 7, thing)), thing == () and type(thing) is tuple)
            for rows in ((thing,), (*ROWS, thing), (thing, *ROWS)):
                self.assertIs(is_signs(sample(), ("signs", "north", 2, 9999, rows)), False)
        self.assertIs(is_signs(sample(), ("signs", "north", 2, 7, list(ROWS))), False)
        self.assertIs(is_signs(sample(), ("signs", "north", 2, 7, (list(ROWS[0]),))), False)

    def test_at_most_twelve_rows(self):
        for many in range(15):
            rows = tuple((3 + at, "lv", at, "good") for at in range(many))
            self.assertIs(is_signs(sample(), ("signs", "north", 40, 9999, rows)), many <= 12)

    def test_rows_of_the_place_alone(self):
        for name, place, _ in POINTS:
            for at in ("north", "east", "dam"):
                self.assertIs(is_signs(sample(), ("signs", at, 1, 5, ((5, name, 1, "odd"),))), place == at)
        rows = (*ROWS, (7, "a", 1, "good"))
        self.assertIs(is_signs(sample(), ("signs", "north", 2, 7, rows)), False)
        self.assertIs(is_signs(sample(), ("signs", "north", 2, 7, rows[3:] + rows[:3])), False)

    def test_worths_of_the_points(self):
        self.assertIs(is_signs(sample(), ("signs", "north", 1, 5, ((5, "v", 2, "good"),))), False)
        self.assertIs(is_signs(sample(), ("signs", "north", 1, 5, ((5, "lv", 64, "good"),))), False)
        self.assertIs(is_signs(sample(), ("signs", "north", 1, 5, ((5, "lv", 63, "good"), (5, "v", 1, "good")))), True)

    def test_times_never_fall(self):
        for many in range(4):
            for times in itertools.product(range(4), repeat=many):
                for sent in range(4):
                    rows = tuple((time, "lv", at, "good") for at, time in enumerate(times))
                    right = all(one <= other for one, other in zip(times, [*times[1:], sent]))
                    self.assertIs(is_signs(sample(), ("signs", "north", 1, sent, rows)), right)

    def test_what_is_handed_in_stays(self):
        rows = [[3, "lv", 40, "good"]]
        thing = ["signs", "north", 1, 5, rows]
        for ask in (is_sign, is_signs, is_order, is_letter):
            self.assertIs(ask(sample(), thing), False)
        self.assertEqual(thing, ["signs", "north", 1, 5, [[3, "lv", 40, "good"]]])


class RowsTest(PanelCase):
    def test_rows_of_each_point(self):
        works = sample()
        self.is_just(rows_of(works, SIGNS, "lv"), [(3, 40, "good"), (7, 0, "good")])
        self.is_just(rows_of(works, SIGNS, "v"), [(3, 1, "odd")])
        for point in ("a", "b", "c", "s", "w"):
            self.is_just(rows_of(works, SIGNS, point), [])
        self.is_just(rows_of(works, ("signs", "north", 1, 0, ()), "lv"), [])

    def test_rows_alike_stay_in_order(self):
        one, other, later = (3, "lv", 1, "good"), (3, "lv", 0, "odd"), (4, "lv", 0, "odd")
        rows = (one, one, other, one, later)
        told = [(time, worth, mark) for time, _, worth, mark in rows]
        self.is_just(rows_of(sample(), ("signs", "north", 1, 9, rows), "lv"), told)

    def test_told_anew(self):
        works = sample()
        told = rows_of(works, SIGNS, "v")
        told.append("more")
        self.is_just(rows_of(works, SIGNS, "v"), [(3, 1, "odd")])

    def test_wrong_things(self):
        no_letters = [*others(), list(SIGNS), ("signs", "north", 0, 7, ()), ("do", (4, 1), "open"), ("term", 5),
                      ("terms", "north", 5, 30), ("answer", "north", (4, 1), "done", 5, 30),
                      ("signs", "north", 2, 6, ROWS)]
        self.look_at_arguments(
            rows_of, ("works", sample(), NO_WORKS, NoWorks), ("letter", SIGNS, no_letters, NoLetter),
            ("point", "lv", wrong(POINT), NoPoint),
        )


def letters_of(place, point, many):
    return [("signs", place, at, at * 10, ((at * 10, point, at, "good"),)) for at in range(1, many + 1)]


class InOrderTest(PanelCase):
    def test_by_places_and_numbers(self):
        letters = [*letters_of("dam", "w", 1), *letters_of("east", "a", 12), *letters_of("north", "lv", 11)]
        chance = random.Random(7)
        for _ in range(20):
            mixed = letters + chance.choices(letters, k=9)
            chance.shuffle(mixed)
            kept = list(mixed)
            self.is_just(in_order(sample(), mixed), letters)
            self.is_just(in_order(letters=tuple(mixed), works=sample()), letters)
            self.assertEqual(mixed, kept)

    def test_none_and_one(self):
        self.is_just(in_order(sample(), []), [])
        self.is_just(in_order(sample(), ()), [])
        self.is_just(in_order(sample(), [SIGNS]), [SIGNS])
        self.is_just(in_order(sample(), [SIGNS] * 5), [SIGNS])

    def test_letters_that_do_not_fit_together_stay(self):
        rows = ((3, "w", 1, "good"),)
        letters = [("signs", "dam", 1, 50, ()), ("signs", "dam", 2, 40, rows), ("signs", "dam", 40, 0, ())]
        self.is_just(in_order(sample(), letters[::-1]), letters)

    def test_at_most_two_hundred(self):
        letters = letters_of("east", "b", 40)
        self.is_just(in_order(sample(), letters * 5), letters)
        for more in ([*(letters * 5), letters[0]], tuple([*(letters * 5), letters[0]]), [None] * 201, [SIGNS] * 201):
            self.refused(NoList, more, in_order, sample(), more)
        self.refused(NoLetter, None, in_order, sample(), [None] * 200)

    def test_no_list(self):
        no_lists = wrong(lambda thing: isinstance(thing, (list, tuple)))
        self.look_at_arguments(
            in_order, ("works", sample(), NO_WORKS, NoWorks), ("letters", [SIGNS], no_lists, NoList),
        )
        self.refused(NoWorks, None, in_order, None, None)
        self.refused(NoList, SIGNS[0], in_order, sample(), SIGNS[0])
        self.refused(NoLetter, "signs", in_order, sample(), SIGNS)

    def test_no_letters(self):
        other = ("signs", "north", 2, 8, ROWS)
        no_letters = [*others(), list(SIGNS), ("do", (4, 1), "open"), ("term", 5), ("terms", "north", 5, 30),
                      ("answer", "north", (4, 1), "done", 5, 30), ("signs", "north", 41, 7, ())]
        for thing in no_letters:
            self.refused(NoLetter, thing, in_order, sample(), [thing])
            self.refused(NoLetter, thing, in_order, sample(), (SIGNS, thing, "zz"))
            self.refused(NoLetter, thing, in_order, sample(), [SIGNS, other, thing])

    def test_unlike(self):
        changed = [
            ("signs", "north", 2, 8, ROWS), ("signs", "north", 2, 7, ROWS[:2]), ("signs", "north", 2, 7, ()),
            ("signs", "north", 2, 7, (*ROWS[:2], (7, "lv", 0, "odd"))),
            ("signs", "north", 2, 7, (ROWS[1], ROWS[0], ROWS[2])),
        ]
        for other in changed:
            same = ("signs", "north", 1, 3, ())
            self.refused(Unlike, other, in_order, sample(), [SIGNS, other])
            self.refused(Unlike, SIGNS, in_order, sample(), (other, SIGNS))
            self.refused(Unlike, other, in_order, sample(), [same, SIGNS, same, SIGNS, other, same, changed[0]])

    def test_the_first_unlike_one_goes(self):
        east = ("signs", "east", 1, 5, ())
        unlike_east, unlike_north = ("signs", "east", 1, 6, ()), ("signs", "north", 2, 8, ROWS)
        self.refused(Unlike, unlike_north, in_order, sample(), [east, SIGNS, unlike_north, unlike_east])
        self.refused(Unlike, unlike_east, in_order, sample(), [east, SIGNS, unlike_east, unlike_north])

    def test_told_anew(self):
        told = in_order(sample(), [SIGNS])
        told.append("more")
        self.is_just(in_order(sample(), [SIGNS]), [SIGNS])

    def test_works_stay(self):
        works = sample()
        in_order(works, [SIGNS])
        rows_of(works, SIGNS, "lv")
        is_letter(works, SIGNS)
        self.assertEqual(works, sample())
        self.is_just(works.commands(), COMMANDS)


if __name__ == "__main__":
    unittest.main()
