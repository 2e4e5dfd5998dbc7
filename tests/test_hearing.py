"""Tests of panelwatch.hearing: points 41 to 45 and 47, with the signs of point 3 and the histories of point 4."""

import itertools
import random
import unittest

from panelwatch.errors import NoLetter, NoPlace, NoPoint, NoTime, NotThere, NoWorks, NoWorth, Unlike
from panelwatch.hearing import Hearing
from panelwatch.plainroom import PlainRoom
from panelwatch.works import Works
from tests.chances import mixed, other_works, sent, worth_of
from tests.things import POINTS, PanelCase, among, no_signs, others, sample, whole, wrong

PLACES = ("north", "east", "dam")
NAMES = [row[0] for row in POINTS]
TIME = whole(0, 9999)
EMPTY = (None, None, None, "open")


def signs(number, time, *rows, place="north"):
    return ("signs", place, number, time, rows)


def hearing_of(*letters, works=None):
    hearing = Hearing(works or sample())
    for letter in letters:
        hearing.hear(letter)
    return hearing


def look(hearing):
    return hearing.marks(), hearing.letters(), hearing.hands(), [hearing.history(name) for name in NAMES]


def known_of(letters, place):
    """The known time, by what point 3 says."""
    times = {letter[2]: letter[3] for letter in letters if letter[1] == place}
    ahead = [number for number in times if all(less in times for less in range(1, number + 1))]
    return times[max(ahead)] if ahead else None


def history_of(letters, point):
    """The history, by what points 4 and 42 say."""
    keyed = [
        ((row[0], letter[2], at), (row[0], row[2], row[3]))
        for letter in letters for at, row in enumerate(letter[4]) if row[1] == point
    ]
    times = sorted({key[0] for key, _ in keyed})
    return [max(pair for pair in keyed if pair[0][0] == time)[1] for time in times]


def shown_of(works, letters, point, at):
    known = known_of(letters, works.point(point)[1])
    state = "sure" if known is not None and at < known else "open"
    rows = [row for row in history_of(letters, point) if row[0] <= at]
    return (rows[-1][1], rows[-1][0], rows[-1][2], state) if rows else (None, None, None, state)


class HearTest(PanelCase):
    def test_new_or_not(self):
        hearing = Hearing(sample())
        one, other = signs(1, 5, (3, "lv", 4, "good")), signs(2, 5)
        self.assertIs(hearing.hear(other), True)
        self.assertIs(hearing.hear(letter=one), True)
        self.assertIs(hearing.hear(one), False)
        self.assertIs(hearing.hear(("signs", "north", 2, 5, ())), False)
        self.is_just(hearing.letters(), [one, other])
        self.assertEqual(len(hearing), 2)

    def test_works_are_told(self):
        works = sample()
        self.assertEqual(Hearing(works=works).works(), works)

    def test_no_works(self):
        no_works = wrong(lambda thing: isinstance(thing, Works))
        self.look_at_arguments(lambda **named: Hearing(**named).letters(), ("works", sample(), no_works, NoWorks))

    def test_no_letters(self):
        hearing = hearing_of(signs(1, 5, (3, "lv", 4, "good")))
        for thing in no_signs():
            with self.subTest(thing=repr(thing)[:60]):
                self.stays(lambda: look(hearing), NoLetter, thing, hearing.hear, thing)

    def test_letters_of_its_works_alone(self):
        works = Works([("lv", "far", "switch")])
        self.assertIs(Hearing(works).hear(signs(1, 5, (5, "lv", 1, "good"), place="far")), True)
        for letter in (signs(1, 5), signs(1, 5, (5, "lv", 2, "good"), place="far")):
            self.refused(NoLetter, letter, Hearing(works).hear, letter)

    def test_another_one_of_its_number(self):
        good = signs(2, 7, (3, "lv", 4, "good"), (3, "lv", 5, "good"))
        hearing = hearing_of(good)
        for letter in (
            signs(2, 8, *good[4]), signs(2, 7), signs(2, 7, good[4][0]), signs(2, 7, *good[4][::-1]),
            signs(2, 7, good[4][0], (3, "lv", 5, "odd")), signs(2, 7, good[4][0], (3, "v", 1, "good")),
        ):
            self.stays(lambda: look(hearing), Unlike, letter, hearing.hear, letter)
        self.assertIs(hearing.hear(good), False)
        self.assertIs(hearing.hear(signs(2, 7, place="east")), True)

    def test_fits_by_times(self):
        for low, high, sign in itertools.product(range(4), range(4), (None, 0, 1, 2, 3)):
            if sign is not None and sign > high:
                continue
            one = signs(3, low)
            other = signs(5, high, *([] if sign is None else [(sign, "lv", 1, "odd"), (high, "v", 1, "odd")]))
            fits = high >= low and (sign is None or sign >= low)
            for first, second in ((one, other), (other, one)):
                hearing = hearing_of(first)
                if fits:
                    self.assertIs(hearing.hear(second), True)
                else:
                    self.stays(lambda: look(hearing), Unlike, second, hearing.hear, second)

    def test_fits_all_that_was_heard(self):
        hearing = hearing_of(signs(1, 5), signs(9, 20, (18, "lv", 1, "good")), signs(5, 10))
        for letter in (signs(3, 4), signs(3, 11), signs(7, 19), signs(7, 9), signs(40, 19),
                       signs(2, 10, (4, "v", 1, "odd")), signs(12, 30, (19, "v", 1, "odd"), (30, "v", 0, "odd"))):
            self.stays(lambda: look(hearing), Unlike, letter, hearing.hear, letter)
        for letter in (signs(3, 5), signs(4, 10), signs(7, 18), signs(40, 20), signs(2, 5, (5, "v", 1, "odd"))):
            self.assertIs(hearing.hear(letter), True)

    def test_places_play_no_part_for_one_another(self):
        hearing = hearing_of(signs(2, 50), signs(1, 900, place="east"), signs(40, 0, place="dam"))
        self.assertEqual(len(hearing), 3)

    def test_forty_letters_of_twelve_signs_of_three_places(self):
        points = {"north": "lv", "east": "a", "dam": "w"}
        letters = [
            signs(number, number * 12, *[(number * 12, points[place], at & 1, "good") for at in range(12)], place=place)
            for place in PLACES for number in range(1, 41)
        ]
        chance = random.Random(5)
        chance.shuffle(letters)
        hearing = hearing_of(*letters)
        self.assertEqual(len(hearing), 120)
        for place, point in points.items():
            self.is_just(hearing.known(place), 480)
            self.is_just(hearing.lacking(place), [])
            self.is_just(hearing.history(point), [(number * 12, 1, "good") for number in range(1, 41)])


class KnownTest(PanelCase):
    def test_none_without_letter_one(self):
        hearing = hearing_of(signs(2, 7), signs(4, 9))
        self.assertIs(hearing.known("north"), None)
        self.is_just(hearing.lacking("north"), [1, 3])
        self.assertIs(hearing.known("east"), None)
        self.is_just(hearing.lacking("east"), [])

    def test_up_to_the_first_that_lacks(self):
        hearing = hearing_of(signs(1, 0), signs(2, 7), signs(40, 9))
        self.is_just(hearing.known("north"), 7)
        self.is_just(hearing.lacking("north"), list(range(3, 40)))
        self.assertIs(hearing.hear(signs(3, 8)), True)
        self.is_just(hearing.known(place="north"), 8)
        self.is_just(hearing.lacking(place="north"), list(range(4, 40)))
        self.is_just(hearing_of(signs(1, 0)).known("north"), 0)

    def test_all_sets_of_numbers(self):
        for many in range(6):
            for numbers in itertools.combinations(range(1, 6), many):
                letters = [signs(number, number * 2) for number in numbers]
                hearing = hearing_of(*letters)
                self.is_just(hearing.known("north"), known_of(letters, "north"))
                lacking = [number for number in range(1, max(numbers, default=0)) if number not in numbers]
                self.is_just(hearing.lacking("north"), lacking)

    def test_no_place(self):
        no_places = wrong(among(*PLACES))
        for name in ("known", "lacking"):
            self.look_at_arguments(getattr(Hearing(sample()), name), ("place", "dam", no_places, NoPlace))


class HistoryTest(PanelCase):
    def test_the_latest_sign_of_a_time(self):
        letters = [
            signs(1, 5, (3, "lv", 1, "good"), (3, "lv", 2, "good"), (5, "lv", 3, "good"), (5, "v", 1, "good")),
            signs(2, 5, (5, "lv", 4, "odd"), (5, "lv", 5, "odd")),
            signs(4, 9, (5, "lv", 6, "good"), (9, "lv", 7, "good"), (9, "v", 1, "odd"), (9, "v", 0, "odd")),
        ]
        for turned in itertools.permutations(letters):
            hearing = hearing_of(*turned)
            self.is_just(hearing.history(point="lv"), [(3, 2, "good"), (5, 6, "good"), (9, 7, "good")])
            self.is_just(hearing.history("v"), [(5, 1, "good"), (9, 0, "odd")])
            for name in ("a", "b", "c", "s", "w"):
                self.is_just(hearing.history(name), [])
        self.is_just(hearing_of(*letters[:2]).history("lv"), [(3, 2, "good"), (5, 5, "odd")])

    def test_an_unchanged_worth_stays_a_sign(self):
        hearing = hearing_of(signs(1, 5, (3, "lv", 1, "good"), (4, "lv", 1, "good")))
        self.is_just(hearing.history("lv"), [(3, 1, "good"), (4, 1, "good")])

    def test_no_point(self):
        self.look_at_arguments(hearing_of().history, ("point", "lv", wrong(among(*NAMES)), NoPoint))


class HandTest(PanelCase):
    def test_put_in(self):
        hearing = hearing_of(signs(1, 50, (10, "lv", 4, "odd")))
        self.assertIs(hearing.hand("lv", 9, 20, 30), None)
        self.is_just(hearing.hands(), [("lv", 9, 20, 30)])
        self.is_just(hearing.show("lv", 19), (4, 10, "odd", "sure"))
        self.is_just(hearing.show("lv", 20), (9, 20, "good", "hand"))
        self.is_just(hearing.show("lv", 29), (9, 20, "good", "hand"))
        self.is_just(hearing.show("lv", 30), (4, 10, "odd", "sure"))
        self.is_just(hearing.show("v", 25), (None, None, None, "sure"))
        hearing.hand(end=9999, since=0, worth=0, point="v")
        self.is_just(hearing.hands(), [("lv", 9, 20, 30), ("v", 0, 0, 9999)])
        self.is_just(hearing.show("v", 9998), (0, 0, "good", "hand"))
        self.is_just(hearing.show("v", 9999), EMPTY)
        self.is_just(hearing.history("lv"), [(10, 4, "odd")])

    def test_the_last_one_put_in_counts(self):
        hearing = Hearing(sample())
        for hand in (("lv", 1, 10, 40), ("lv", 2, 0, 20), ("lv", 3, 15, 16), ("v", 1, 0, 90), ("lv", 1, 10, 40)):
            hearing.hand(*hand)
            if hand[1] == 3:
                told = [hearing.show("lv", at)[:2] for at in (9, 10, 14, 15, 16, 19, 20, 39, 40)]
                self.is_just(told, [(2, 0), (2, 0), (2, 0), (3, 15), (2, 0), (2, 0), (1, 10), (1, 10), (None, None)])
        self.is_just(hearing.show("lv", 15), (1, 10, "good", "hand"))
        self.assertEqual(len(hearing.hands()), 5)

    def test_taken_out(self):
        hearing = Hearing(sample())
        hearing.hand("lv", 1, 10, 40)
        hearing.hand("v", 1, 10, 40)
        hearing.hand("lv", 2, 20, 30)
        self.assertIs(hearing.unhand("lv", 25), None)
        self.is_just(hearing.hands(), [("lv", 1, 10, 40), ("v", 1, 10, 40), ("lv", 2, 20, 25)])
        hearing.unhand(at=25, point="lv")
        self.is_just(hearing.hands(), [("lv", 1, 10, 25), ("v", 1, 10, 40), ("lv", 2, 20, 25)])
        self.stays(lambda: look(hearing), NotThere, "lv", hearing.unhand, "lv", 25)
        self.is_just(hearing.show("lv", 24), (2, 20, "good", "hand"))
        hearing.unhand("lv", 20)
        self.is_just(hearing.hands(), [("lv", 1, 10, 25), ("v", 1, 10, 40)])
        self.is_just(hearing.show("lv", 24), (1, 10, "good", "hand"))
        hearing.unhand("v", 10)
        self.is_just(hearing.hands(), [("lv", 1, 10, 25)])

    def test_none_counts(self):
        hearing = Hearing(sample())
        hearing.hand("lv", 1, 10, 40)
        for point, at in (("lv", 9), ("lv", 40), ("v", 20), ("w", 10)):
            self.stays(lambda: look(hearing), NotThere, point, hearing.unhand, point, at)

    def test_refused(self):
        def hand(**named):
            hearing = hearing_of(signs(1, 5, (3, "lv", 4, "good")))
            ahead = look(hearing)
            try:
                hearing.hand(**named)
            except (NoPoint, NoWorth, NoTime):
                self.assertEqual(look(hearing), ahead)
                raise
            return hearing.hands()

        names, times = wrong(among(*NAMES)), [*wrong(TIME), True, 10000]
        for point, most in (("lv", 63), ("v", 1)):
            self.look_at_arguments(
                hand, ("point", point, names, NoPoint), ("worth", 1, wrong(whole(0, most)), NoWorth),
                ("since", 4, times, NoTime), ("end", 9, times, NoTime),
            )
        for since, end in ((0, 0), (9, 9), (9, 8), (9999, 0), (9999, 9999)):
            self.refused(NoTime, end, hand, point="lv", worth=1, since=since, end=end)
        self.refused(NoTime, 10000, hand, point="lv", worth=1, since=10000, end=9)
        self.refused(NoWorth, 2, hand, point="v", worth=2, since=9, end=9)

    def test_out_refused(self):
        def unhand(**named):
            hearing = Hearing(sample())
            hearing.hand("lv", 1, 10, 40)
            ahead = look(hearing)
            try:
                hearing.unhand(**named)
            except (NoPoint, NoTime, NotThere):
                self.assertEqual(look(hearing), ahead)
                raise
            return hearing.hands()

        self.look_at_arguments(
            unhand, ("point", "lv", wrong(among(*NAMES)), NoPoint), ("at", 20, [*wrong(TIME), True], NoTime),
        )
        self.refused(NoTime, None, unhand, point="v", at=None)

    def test_by_chance(self):
        chance = random.Random(43)
        for _ in range(40):
            hearing, hands = Hearing(sample()), []
            for _ in range(25):
                point = chance.choice(("lv", "v"))
                at = chance.randrange(12)
                counting = [hand for hand in hands if hand[0] == point and hand[2] <= at < hand[3]]
                if chance.random() < 0.5:
                    row = (point, worth_of(chance, sample(), point), at, at + chance.randint(1, 6))
                    hands.append(row)
                    hearing.hand(*row)
                elif not counting:
                    self.refused(NotThere, point, hearing.unhand, point, at)
                else:
                    place = max(place for place, hand in enumerate(hands) if hand in counting)
                    point, worth, since, _ = hands[place]
                    hands[place:place + 1] = [] if since == at else [(point, worth, since, at)]
                    hearing.unhand(point, at)
                self.is_just(hearing.hands(), hands)
                for name, at in itertools.product(("lv", "v"), range(20)):
                    counting = [hand for hand in hands if hand[0] == name and hand[2] <= at < hand[3]]
                    told = (counting[-1][1], counting[-1][2], "good", "hand") if counting else EMPTY
                    self.is_just(hearing.show(name, at), told)


class ShowTest(PanelCase):
    def test_sure_ahead_of_the_known_time(self):
        hearing = hearing_of(signs(1, 5, (3, "lv", 4, "good"), (5, "lv", 6, "good")), signs(3, 9, (8, "lv", 7, "odd")))
        told = [hearing.show("lv", at) for at in (0, 2, 3, 4, 5, 7, 8, 9999)]
        self.is_just(told, [
            (None, None, None, "sure"), (None, None, None, "sure"), (4, 3, "good", "sure"), (4, 3, "good", "sure"),
            (6, 5, "good", "open"), (6, 5, "good", "open"), (7, 8, "odd", "open"), (7, 8, "odd", "open"),
        ])
        hearing.hear(signs(2, 6))
        self.is_just(hearing.show(at=7, point="lv"), (6, 5, "good", "sure"))
        self.is_just(hearing.show("lv", 9), (7, 8, "odd", "open"))

    def test_nothing_is_sure_at_a_known_time_of_zero(self):
        self.is_just(hearing_of(signs(1, 0, (0, "lv", 5, "good"))).show("lv", 0), (5, 0, "good", "open"))
        self.is_just(Hearing(sample()).show("lv", 0), EMPTY)

    def test_picture(self):
        hearing = hearing_of(signs(1, 5, (3, "lv", 4, "odd")), signs(2, 9, (8, "a", 60, "good"), place="east"))
        hearing.hand("w", 1, 4, 5)
        empty = dict.fromkeys(NAMES)
        self.is_just(hearing.picture(2), empty)
        self.is_just(hearing.picture(at=4), {**empty, "lv": 4, "w": 1})
        self.is_just(hearing.picture(8), {**empty, "lv": 4, "a": 60})
        self.assertEqual(list(hearing.picture(8)), NAMES)

    def test_refused(self):
        hearing = Hearing(sample())
        self.look_at_arguments(
            hearing.show, ("point", "lv", wrong(among(*NAMES)), NoPoint), ("at", 5, [*wrong(TIME), True], NoTime),
        )
        self.look_at_arguments(hearing.picture, ("at", 5, [*wrong(TIME), True], NoTime))


class ChanceTest(PanelCase):
    def test_by_the_document_s_words(self):
        chance = random.Random(44)
        for _ in range(40):
            works = sample()
            letters = sent(chance, works, 6)
            heard = chance.sample(letters, k=chance.randint(0, len(letters)))
            hearing = hearing_of(*mixed(chance, heard), works=works)
            self.assertEqual(len(hearing), len(heard))
            self.is_just(hearing.letters(), sorted(heard, key=lambda letter: letter[1:3]))
            for place in PLACES:
                self.is_just(hearing.known(place), known_of(heard, place))
            for name in NAMES:
                self.is_just(hearing.history(name), history_of(heard, name))
            for at in (0, 1, 2, 3, 5, 8, 13, 21, 34, 55, 9999):
                told = {name: shown_of(works, heard, name, at) for name in NAMES}
                self.is_just({name: hearing.show(name, at) for name in NAMES}, told)
                self.is_just(hearing.picture(at), {name: told[name][0] for name in NAMES})

    def test_whatever_order_doublings_and_copies(self):
        chance = random.Random(45)
        for _ in range(30):
            works = sample()
            letters = sent(chance, works, 8)
            plain = hearing_of(*letters, works=works)
            hearing = Hearing(works)
            for letter in mixed(chance, letters):
                old = letter in hearing.letters()
                self.assertIs(hearing.hear(letter), not old)
                if chance.random() < 0.3:
                    hearing = hearing.copied()
            self.assertTrue(hearing == plain)
            self.assertEqual(look(hearing), look(plain))
            chance.shuffle(letters)
            room = PlainRoom(works, letters)
            for at in range(0, 60, 7):
                for name in NAMES:
                    self.is_just(hearing.show(name, at), plain.show(name, at))
                    self.is_just(room.show(name, at), plain.show(name, at))

    def test_what_is_sure_never_changes(self):
        chance = random.Random(46)
        for _ in range(15):
            works = sample()
            letters = sent(chance, works, 8)
            full = PlainRoom(works, letters)
            hearing = Hearing(works)
            chance.shuffle(letters)
            for letter in letters:
                hearing.hear(letter)
                for at in range(0, 60, 3):
                    for name in NAMES:
                        told = hearing.show(name, at)
                        self.assertIn(told[3], ("sure", "open"))
                        self.assertTrue(told[1] is None or told[1] <= at)
                        if told[3] == "sure":
                            self.is_just(full.show(name, at), told)


class EqualTest(PanelCase):
    def test_letters_and_hands(self):
        letters = [signs(1, 5, (3, "lv", 4, "good")), signs(2, 8), signs(1, 5, place="east")]
        one = hearing_of(*letters)
        for turned in itertools.permutations(letters):
            other = hearing_of(*turned)
            self.assertTrue(one == other)
            self.assertFalse(one != other)
            self.is_just(other.marks(), one.marks())
        for fewer in itertools.combinations(letters, 2):
            self.unequal(one, hearing_of(*fewer))
        other.hand("lv", 1, 3, 4)
        self.unequal(one, other)
        one.hand("lv", 1, 3, 4)
        self.assertTrue(one == other)
        one.hand("lv", 2, 3, 4)
        self.unequal(one, other)
        other.hand("lv", 2, 3, 4)
        one.hand("lv", 1, 3, 4)
        other.hand("lv", 1, 3, 4)
        self.assertTrue(one == other)

    def unequal(self, one, other):
        self.assertFalse(one == other)
        self.assertTrue(one != other)
        self.assertNotEqual(one.marks(), other.marks())

    def test_hands_in_their_order(self):
        one, other = Hearing(sample()), Hearing(sample())
        for hand in (("lv", 1, 3, 4), ("v", 1, 3, 4)):
            one.hand(*hand)
        for hand in (("v", 1, 3, 4), ("lv", 1, 3, 4)):
            other.hand(*hand)
        self.unequal(one, other)

    def test_letters_are_no_hands(self):
        one, other = hearing_of(signs(1, 0)), hearing_of()
        other.hand("lv", 1, 0, 5)
        self.unequal(one, other)

    def test_works(self):
        self.assertTrue(Hearing(sample()) == Hearing(sample()))
        for works in other_works():
            self.assertFalse(Hearing(sample()) == Hearing(works))

    def test_other_kinds(self):
        for thing in [*others(), PlainRoom(sample(), [])]:
            if not isinstance(thing, Hearing):
                self.assertFalse(Hearing(sample()) == thing)
                self.assertFalse(hearing_of(signs(1, 5)) == thing)
        self.assertIs(type(repr(Hearing(sample()))), str)

    def test_marks_are_plain(self):
        def are_plain(thing):
            if type(thing) is tuple:
                return all(are_plain(part) for part in thing)
            return thing is None or type(thing) in (int, str)

        hearing = hearing_of(signs(1, 5, (3, "lv", 4, "good")))
        hearing.hand("lv", 1, 3, 4)
        self.assertIs(type(hearing.marks()), tuple)
        self.assertTrue(are_plain(hearing.marks()))


class CopyTest(PanelCase):
    def test_goes_its_own_way(self):
        one = hearing_of(signs(1, 5))
        one.hand("lv", 1, 3, 8)
        kept = look(one)
        copy = one.copied()
        self.assertEqual(look(copy), kept)
        self.assertTrue(copy == one)
        copy.hear(signs(2, 6))
        copy.unhand("lv", 4)
        copy.hand("v", 1, 0, 9)
        self.assertEqual(look(one), kept)
        changed = look(copy)
        one.hear(signs(2, 7))
        one.unhand("lv", 3)
        self.assertEqual(look(copy), changed)

    def test_told_anew(self):
        hearing = hearing_of(signs(1, 5, (3, "lv", 4, "good")), signs(4, 8))
        hearing.hand("lv", 1, 3, 8)
        for ask in (
            hearing.letters, hearing.hands, lambda: hearing.history("lv"), lambda: hearing.lacking("north"),
            lambda: hearing.picture(4),
        ):
            self.told_anew(ask)


if __name__ == "__main__":
    unittest.main()
