"""Tests of panelwatch.plainroom: point 46."""

import itertools
import random
import unittest

from panelwatch.errors import NoLetter, NoList, NoPlace, NoPoint, NoTime, NotThere, NoWorks, Unlike
from panelwatch.hearing import Hearing
from panelwatch.plainroom import PlainRoom
from panelwatch.works import Works
from tests.chances import sent
from tests.things import POINTS, PanelCase, among, no_signs, others, sample, whole, wrong

PLACES = ("north", "east", "dam")
NAMES = [row[0] for row in POINTS]
ONE = ("signs", "north", 1, 5, ((3, "lv", 4, "good"),))
TWO = ("signs", "north", 2, 9, ((5, "lv", 6, "odd"), (8, "v", 1, "good")))
HANDS = [("lv", 1, 3, 8), ("v", 0, 0, 9999), ("lv", 2, 4, 5)]


def hearing_of(letters, hands=()):
    hearing = Hearing(sample())
    for letter in letters:
        hearing.hear(letter)
    for hand in hands:
        hearing.hand(*hand)
    return hearing


def look(room):
    return (
        [room.known(place) for place in PLACES], [room.history(name) for name in NAMES],
        [room.show(name, at) for name in NAMES for at in range(0, 70, 4)], [room.picture(at) for at in range(0, 70, 4)],
    )


class RoomTest(PanelCase):
    def test_without_letters(self):
        room = PlainRoom(sample(), [])
        self.assertEqual(room.works(), sample())
        self.is_just(look(room), look(Hearing(sample())))
        self.is_just(room.show("lv", 0), (None, None, None, "open"))

    def test_one_and_two(self):
        room = PlainRoom(sample(), [TWO, ONE], hands=HANDS)
        self.is_just(room.known("north"), 9)
        self.assertIs(room.known(place="dam"), None)
        self.is_just(room.history(point="lv"), [(3, 4, "good"), (5, 6, "odd")])
        told = [room.show("lv", at) for at in (2, 3, 4, 5, 8, 9)]
        self.is_just(told, [
            (None, None, None, "sure"), (1, 3, "good", "hand"), (2, 4, "good", "hand"), (1, 3, "good", "hand"),
            (6, 5, "odd", "sure"), (6, 5, "odd", "open"),
        ])
        self.is_just(room.picture(8), {"lv": 6, "v": 0, "a": None, "b": None, "c": None, "s": None, "w": None})

    def test_like_a_hearing_of_them_all(self):
        chance = random.Random(46)
        for _ in range(30):
            letters = sent(chance, sample(), 8)
            chance.shuffle(letters)
            hands = chance.sample(HANDS, k=chance.randint(0, 3))
            for handed in (hands, tuple(hands)):
                room = PlainRoom(sample(), tuple(letters), hands=handed)
                self.is_just(look(room), look(hearing_of(letters, hands)))
            self.is_just(look(PlainRoom(sample(), letters)), look(hearing_of(letters)))

    def test_by_names(self):
        letters = [ONE, TWO]
        room = PlainRoom(hands=HANDS, letters=letters, works=sample())
        self.is_just(room.show(at=3, point="lv"), (1, 3, "good", "hand"))

    def test_forty_letters_of_all_places(self):
        letters = [("signs", place, number, number, ()) for number in range(40, 0, -1) for place in PLACES]
        self.assertEqual([PlainRoom(sample(), letters).known(place) for place in PLACES], [40, 40, 40])
        self.refused(Unlike, letters[0], PlainRoom, sample(), [*letters, letters[0]])


class RefusedTest(PanelCase):
    def test_no_works_and_no_lists(self):
        no_lists = wrong(lambda thing: isinstance(thing, (list, tuple)))
        self.look_at_arguments(
            lambda **named: PlainRoom(**named).history("lv"),
            ("works", sample(), wrong(lambda thing: isinstance(thing, Works)), NoWorks),
            ("letters", [ONE, TWO], no_lists, NoList),
            ("hands", HANDS, [thing for thing in near_hands() if thing not in ([], ())], NoList),
        )
        self.refused(NoLetter, "signs", PlainRoom, sample(), ONE)

    def test_no_letters(self):
        for thing in no_signs():
            with self.subTest(thing=repr(thing)[:60]):
                self.refused(NoLetter, thing, PlainRoom, sample(), [thing])
                self.refused(NoLetter, thing, PlainRoom, sample(), (ONE, TWO, thing, ONE), hands="zz")

    def test_letters_that_do_not_go_together(self):
        late = ("signs", "north", 3, 9, ((8, "lv", 6, "odd"),))
        early = ("signs", "north", 3, 8, ())
        other = ("signs", "north", 2, 9, ())
        for letter in (ONE, TWO, late, early, other):
            self.refused(Unlike, letter, PlainRoom, sample(), [ONE, TWO, letter])
        self.refused(Unlike, ONE, PlainRoom, sample(), [("signs", "north", 2, 4, ()), ONE])
        same = ("signs", "north", 1, 5, ((3, "lv", 4, "good"),))
        self.refused(Unlike, same, PlainRoom, sample(), [ONE, same])

    def test_letter_by_letter(self):
        self.refused(Unlike, ONE, PlainRoom, sample(), [ONE, ONE, "zz"])
        self.refused(NoLetter, "zz", PlainRoom, sample(), [ONE, "zz", ONE])
        self.refused(Unlike, ONE, PlainRoom, sample(), [TWO, ONE, ONE], hands=None)

    def test_no_hands(self):
        for hand in near_hands():
            with self.subTest(hand=repr(hand)[:60]):
                for hands in ([hand], (hand,), [*HANDS, hand], [hand, *HANDS]):
                    self.refused(NoList, hands, PlainRoom, sample(), [TWO, ONE], hands=hands)
                    self.refused(NoList, hands, PlainRoom, sample(), [TWO], hands=hands)
        self.refused(NoList, None, PlainRoom, sample(), [], hands=None)

    def test_letters_that_lack(self):
        def letters(*keys):
            return [("signs", place, number, number, ()) for place, number in keys]

        for many in range(6):
            for numbers in itertools.combinations(range(1, 6), many):
                rows = letters(*[("north", number) for number in numbers])
                lacking = [number for number in range(1, max(numbers, default=1)) if number not in numbers]
                if lacking:
                    self.refused(NotThere, ("north", lacking[0]), PlainRoom, sample(), rows)
                else:
                    self.assertEqual(PlainRoom(sample(), rows).known("north"), max(numbers, default=None))
        rows = letters(("north", 2), ("east", 40), ("east", 1), ("dam", 1))
        self.refused(NotThere, ("east", 2), PlainRoom, sample(), rows)
        self.refused(NotThere, ("dam", 1), PlainRoom, sample(), [*rows[:3], *letters(("dam", 3), ("dam", 2))])
        self.refused(NotThere, ("north", 1), PlainRoom, sample(), rows[:1])
        self.refused(NotThere, ("north", 1), PlainRoom, sample(), rows[:1], hands=HANDS)

    def test_of_asks(self):
        room = PlainRoom(sample(), [ONE, TWO], hands=HANDS)
        kept = look(room)
        names, times = wrong(among(*NAMES)), [*wrong(whole(0, 9999)), True]
        self.look_at_arguments(room.known, ("place", "dam", wrong(among(*PLACES)), NoPlace))
        self.look_at_arguments(room.history, ("point", "lv", names, NoPoint))
        self.look_at_arguments(room.show, ("point", "lv", names, NoPoint), ("at", 5, times, NoTime))
        self.look_at_arguments(room.picture, ("at", 5, times, NoTime))
        self.is_just(look(room), kept)


def near_hands():
    """Things that can't be put in by hand."""
    good = ("lv", 1, 3, 8)
    return [
        *others(), list(good), good[:3], (*good, 1), ("zz", 1, 3, 8),
        ("north", 1, 3, 8), ("v", 2, 3, 8), ("lv", 64, 3, 8), ("lv", True, 3, 8), ("lv", 1, True, 8),
        ("lv", 1, 3, None), ("lv", 1, 3, 3), ("lv", 1, 8, 3), ("lv", 1, 3, 10000), ("lv", 1, -1, 3),
        ([], 1, 3, 8), ("lv", 1, 0, True),
    ]


class OwnTest(PanelCase):
    def test_what_is_handed_in_stays(self):
        letters, hands = [TWO, ONE], list(HANDS)
        room = PlainRoom(sample(), letters, hands=hands)
        self.assertEqual((letters, hands), ([TWO, ONE], HANDS))
        kept = look(room)
        letters.append("more")
        hands.clear()
        self.is_just(look(room), kept)

    def test_told_anew(self):
        room = PlainRoom(sample(), [ONE, TWO])
        self.told_anew(lambda: room.history("lv"))
        self.told_anew(lambda: room.picture(4))

    def test_equal_to_no_other_kind(self):
        room = PlainRoom(sample(), [])
        for thing in others():
            self.assertFalse(room == thing)
        self.assertTrue(room == room)
        self.assertIs(type(repr(room)), str)


if __name__ == "__main__":
    unittest.main()
