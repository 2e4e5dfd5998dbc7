"""Tests of panelwatch.words: points 11, 12 and 13."""

import itertools
import re
import unittest

from panelwatch.errors import NoNumber, NoRoom, NoTerm, TooMany
from panelwatch.words import (
    MOST_LEVEL, MOST_TERM, MOST_TIME, is_id, is_mark, is_name, is_room, is_term, is_time, is_whole, next_term,
    number_in, room_of_term, words_in,
)
from tests.things import PanelCase, among, name, others, whole, wrong

SIGNS = [chr(code) for code in range(32, 127)] + ["\n"]
NO_NUMBERS = [thing for thing in others() if type(thing) is not int]


class KindsTest(PanelCase):
    def agrees(self, test, fits, things):
        for thing in things:
            with self.subTest(test=test.__name__, thing=repr(thing)[:60]):
                self.assertIs(test(thing), bool(fits(thing)))
                self.assertIs(test(thing=thing), bool(fits(thing)))

    def test_bounds(self):
        self.assertEqual((MOST_TIME, MOST_LEVEL, MOST_TERM), (9999, 63, 999))

    def test_whole_numbers(self):
        for low, high in [(0, 0), (0, 63), (-5, 5), (1, 999), (3, 2), (10, -10), (-10**29, 10**29), (64, 64)]:
            for thing in [*others(), low - 1, low, low + 1, high - 1, high, high + 1]:
                with self.subTest(low=low, high=high, thing=repr(thing)[:60]):
                    self.assertIs(is_whole(thing, low, high), whole(low, high)(thing))

    def test_true_and_false_are_no_whole_numbers(self):
        self.assertIs(is_whole(True, 0, 1), False)
        self.assertIs(is_whole(False, 0, 1), False)
        self.assertIs(is_whole(1, 0, 1), True)
        self.assertIs(is_whole(0, 0, 1), True)

    def test_bounds_of_whole_numbers_are_whole_numbers(self):
        for thing in (5, "x", None):
            self.look_at_arguments(
                is_whole, ("thing", thing, [], None), ("low", 0, NO_NUMBERS, NoNumber),
                ("high", 9, NO_NUMBERS, NoNumber),
            )

    def test_wrong_bounds_go_by_their_order(self):
        self.refused(NoNumber, True, is_whole, 5, True, None)
        self.refused(NoNumber, False, is_whole, 5, 0, False)
        self.refused(NoNumber, "0", is_whole, [], "0", 3)

    def test_names(self):
        lengths = ["a" * many for many in range(12)]
        single = [before + sign + after for sign in SIGNS for before in ("", "ab") for after in ("", "yz")]
        self.agrees(is_name, name, [*others(), *lengths, *single])

    def test_names_edges(self):
        for thing in ("a", "z", "abcdefgh", "zzzzzzzz"):
            self.assertIs(is_name(thing), True)
        for thing in ("", "abcdefghi", "aB", "a1", "a_b", "a b", "ab\n", "\nab", "`", "{", ["a"], ("a",)):
            self.assertIs(is_name(thing), False)

    def test_times(self):
        self.agrees(is_time, whole(0, 9999), [*others(), 9998, 10001, "9999"])

    def test_marks(self):
        self.agrees(is_mark, among("good", "odd"), [*others(), "", "goo", "goodo", "oddgood", "od", "ODD"])

    def test_rooms(self):
        self.agrees(is_room, whole(0, 1), others())

    def test_terms(self):
        self.agrees(is_term, whole(0, 999), others())

    def test_ids(self):
        numbers = [-1, 0, 1, 2, 998, 999, 1000, True, False, None, "1", 10**29]
        pairs = [(term, number) for term in numbers for number in numbers]
        more = [list(pair) for pair in pairs] + [(*pair, 1) for pair in pairs] + [pair[:1] for pair in pairs]

        def fits(thing):
            return (
                isinstance(thing, tuple) and len(thing) == 2 and whole(0, 999)(thing[0]) and whole(1, 999)(thing[1])
            )

        self.agrees(is_id, fits, [*others(), *pairs, *more, ((0, 1), 1), (0, (1,))])
        self.assertIs(is_id((0, 1)), True)
        self.assertIs(is_id((999, 999)), True)
        self.assertIs(is_id((0, 0)), False)
        self.assertIs(is_id((1000, 1)), False)
        self.assertIs(is_id((0, 1000)), False)
        self.assertIs(is_id([0, 1]), False)

    def test_lists_handed_in_stay(self):
        thing = [[0, 1], {"a": ["b"]}]
        for test in (is_name, is_time, is_mark, is_room, is_term, is_id, words_in, number_in):
            test(thing)
        is_whole(thing, 0, 3)
        self.assertEqual(thing, [[0, 1], {"a": ["b"]}])


class TermsTest(PanelCase):
    def test_room_of_each_term(self):
        for term in range(1000):
            self.is_just(room_of_term(term), int(str(term)[-1] in "13579"))

    def test_room_of_no_term(self):
        self.look_at_arguments(room_of_term, ("term", 5, wrong(whole(0, 999)), NoTerm))

    def test_next_term_of_each(self):
        for room in (0, 1):
            terms = list(range(room, 1000, 2))
            self.is_just(next_term(room, None), terms[0])
            for term in range(998 + room):
                self.is_just(next_term(room, term), min(other for other in terms if other > term))

    def test_next_term_beyond_the_last(self):
        self.refused(TooMany, 1000, next_term, 0, 998)
        self.refused(TooMany, 1000, next_term, 0, 999)
        self.refused(TooMany, 1000, next_term, 1, 999)
        self.is_just(next_term(1, 998), 999)
        self.is_just(next_term(0, 997), 998)

    def test_wrong_things(self):
        no_terms = [thing for thing in wrong(whole(0, 999)) if thing is not None]
        self.look_at_arguments(
            next_term, ("room", 1, wrong(whole(0, 1)), NoRoom), ("term", 4, no_terms, NoTerm),
        )
        self.refused(NoRoom, 2, next_term, 2, None)
        self.refused(NoRoom, 2, next_term, 2, 999)
        self.refused(NoTerm, 1000, next_term, 0, 1000)
        self.refused(NoTerm, False, next_term, 1, False)


class NumbersTest(PanelCase):
    def test_each_time(self):
        for number in range(10000):
            self.is_just(number_in(str(number)), number)

    def test_default_bounds(self):
        self.assertIsNone(number_in("10000"))
        self.assertIsNone(number_in("-1"))
        self.is_just(number_in("0"), 0)
        self.is_just(number_in("9999"), 9999)

    def test_told_bounds(self):
        for low, high in [(0, 0), (1, 999), (5, 7), (7, 5), (-3, 12), (-3, -1), (10000, 10**29)]:
            for number in {0, 1, low - 1, low, low + 1, high - 1, high, high + 1, 6, 10**29, 10**30}:
                if number >= 0:
                    value = number if low <= number <= high else None
                    self.is_just(number_in(str(number), low=low, high=high), value)
                    self.is_just(number_in(high=high, low=low, thing=str(number)), value)
            self.assertIsNone(number_in("-2", low=low, high=high))
        self.is_just(number_in("12345", high=20000), 12345)
        self.assertIsNone(number_in("3", low=4))

    def test_ahead_of_other_figures_stands_no_0(self):
        for text in ("00", "01", "007", "0000", "010", "00" + "1" * 20):
            self.assertIsNone(number_in(text))
            self.assertIsNone(number_in(text, low=-10, high=10**29))

    def test_figures_alone(self):
        for at, sign in itertools.product(range(4), SIGNS):
            text = "123"[:at] + sign + "123"[at:]
            self.is_just(number_in(text), int(text) if sign in "123456789" or (sign == "0" and at > 0) else None)
        for text in ("", "+1", "-0", "1.0", "1e3", "1_0", " 1", "1 ", "1\n", "\n1", "0x1", "one", "0 1"):
            self.assertIsNone(number_in(text))

    def test_long_texts(self):
        self.is_just(number_in("9" * 29, high=10**29), 10**29 - 1)
        for text in ("1" * 20000, "0" * 20000, "9" * 19999 + "x", "x" * 20000, "1" * 10000 + " " + "1" * 9999):
            self.assertIsNone(number_in(text))
            self.assertIsNone(number_in(text, low=-10**29, high=10**29))

    def test_things_that_are_no_texts(self):
        for thing in others():
            if not isinstance(thing, str):
                self.assertIsNone(number_in(thing))

    def test_wrong_bounds(self):
        for thing in ("5", 5, None, "x", ""):
            self.look_at_arguments(
                number_in, ("thing", thing, [], None), ("low", 0, NO_NUMBERS, NoNumber),
                ("high", 9, NO_NUMBERS, NoNumber),
            )
        self.refused(NoNumber, None, number_in, "5", low=None, high=True)
        self.refused(NoNumber, True, number_in, "5", high=True)

    def test_bounds_stand_behind_a_star(self):
        with self.assertRaises(TypeError):
            number_in("5", 0)
        with self.assertRaises(TypeError):
            number_in("5", 0, 9)


class WordsTest(PanelCase):
    def test_all_short_texts(self):
        for many in range(7):
            for signs in itertools.product("ab \n", repeat=many):
                text = "".join(signs)
                value = re.findall("[ab]+", text) if re.fullmatch("[ab]+( [ab]+)*", text) else None
                self.is_just(words_in(text), value)

    def test_each_sign_is_a_word(self):
        for sign in SIGNS:
            self.is_just(words_in(sign), None if sign in " \n" else [sign])
            self.is_just(words_in("a " + sign), None if sign in " \n" else ["a", sign])

    def test_edges(self):
        self.is_just(words_in("point lv north level"), ["point", "lv", "north", "level"])
        self.is_just(words_in(thing="now"), ["now"])
        for text in ("", " ", "a  b", " a", "a ", "a\nb", "a\n", "\n", "a \nb"):
            self.assertIsNone(words_in(text))

    def test_long_texts(self):
        self.is_just(words_in("x" * 20000), ["x" * 20000])
        self.is_just(words_in("x y " * 4999 + "zzzz"), ["x", "y"] * 4999 + ["zzzz"])
        self.assertIsNone(words_in("x y " * 5000))

    def test_things_that_are_no_texts(self):
        for thing in others():
            if not isinstance(thing, str):
                self.assertIsNone(words_in(thing))

    def test_told_anew(self):
        told = words_in("a b")
        told.append("c")
        self.is_just(words_in("a b"), ["a", "b"])


if __name__ == "__main__":
    unittest.main()
