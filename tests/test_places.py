"""Tests of panelwatch.places: points 91 to 95, with the signs of point 3."""

import itertools
import random
import unittest

from panelwatch.errors import NoLetter, NoMark, NoPlace, NoPoint, NoTime, NotNow, NotThere, NoWorks, NoWorth
from panelwatch.letters import is_order, is_signs
from panelwatch.places import Place
from panelwatch.works import Works
from tests.chances import other_works, worth_of
from tests.models import PlaceModel, Refused, look_at_place
from tests.things import COMMANDS, PanelCase, among, no_signs, others, sample, whole, wrong

NO_WORKS = wrong(lambda thing: isinstance(thing, Works))
NO_TIMES = [*wrong(whole(0, 9999)), True, 10000]
NO_MARKS = wrong(among("good", "odd"))
NO_LEVELS = wrong(whole(0, 63))
NO_SWITCHES = wrong(whole(0, 1))
HERE = among("lv", "v")
EAST = among("a", "b", "c", "s")


def no_orders():
    good = [("do", (4, 1), "open"), ("back", (4, 1)), ("term", 4)]
    near = [
        *[list(order) for order in good], *[order[:-1] for order in good], *[(*order, 1) for order in good],
        ("do", (4, 1), "zz"), ("do", (4, 1), "lv"), ("do", [4, 1], "open"), ("do", (4, 0), "open"),
        ("do", (4, 1000), "open"), ("do", (1000, 1), "open"), ("do", (True, 1), "open"), ("do", (4, True), "open"),
        ("back", [4, 1]), ("back", (4, True)), ("back", 4), ("term", 1000), ("term", True), ("term", None),
        ("term", (4, 1)), ("Do", (4, 1), "open"), (None, 4), ("terms", "north", 4, 5),
        ("answer", "north", (4, 1), "done", 4, 5),
    ]
    return [thing for thing in [*near, *no_signs()] if not is_order(sample(), thing)]


def look(place):
    return look_at_place(place, sample()), place.marks()


def depth(thing):
    return 1 + max([depth(part) for part in thing], default=0) if isinstance(thing, tuple) else 0


def atoms(thing):
    if not isinstance(thing, tuple):
        return [thing]
    return [atom for part in thing for atom in atoms(part)]


class ChangeTest(PanelCase):
    def test_at_first(self):
        place = Place(sample(), "north")
        self.is_just(place.name(), "north")
        self.is_just((place.time(), place.term(), len(place)), (0, 0, 0))
        self.is_just([place.worth("lv"), place.mark("lv"), place.worth("v"), place.mark("v")], [0, "good"] * 2)
        self.is_just((place.waiting(), place.met(), place.done()), ([], {}, []))
        # Of the worths at first no sign is noted, nor of a change to them.
        self.assertIs(place.change("lv", 0, 0), False)
        self.is_just(place.send(0), ("signs", "north", 1, 0, ()))

    def test_noted_where_anything_is_otherwise(self):
        place = Place(sample(), "north")
        self.assertIs(place.change("lv", 5, 3), True)
        self.assertIs(place.change("lv", 5, 3), False)
        self.assertIs(place.change("lv", 5, 4, mark="odd"), True)
        self.assertIs(place.change("lv", 5, 4, mark="odd"), False)
        self.assertIs(place.change(mark="good", time=4, worth=6, point="lv"), True)
        self.assertIs(place.change("lv", 0, 4), True)
        self.assertIs(place.change("v", 0, 9, mark="odd"), True)
        signs = [(3, "lv", 5, "good"), (4, "lv", 5, "odd"), (4, "lv", 6, "good"), (4, "lv", 0, "good"),
                 (9, "v", 0, "odd")]
        self.is_just(place.waiting(), signs)
        self.is_just((place.worth("lv"), place.mark("lv"), place.worth("v"), place.mark("v")), (0, "good", 0, "odd"))

    def test_changes_at_one_time_stay_in_order(self):
        place = Place(sample(), "north")
        rows = [(7, "lv", 1, "good"), (7, "v", 1, "good"), (7, "lv", 2, "odd"), (7, "v", 0, "good"),
                (7, "lv", 1, "good")]
        for at, point, worth, mark in rows:
            self.assertIs(place.change(point, worth, at, mark=mark), True)
        self.is_just(place.waiting(), rows)
        self.is_just(place.send(7), ("signs", "north", 1, 7, tuple(rows)))

    def test_worths_at_their_bounds(self):
        place = Place(sample(), "north")
        self.assertIs(place.change("lv", 63, 9999), True)
        self.assertIs(place.change("v", 1, 9999), True)
        self.is_just((place.worth("lv"), place.worth("v")), (63, 1))

    def test_the_time_goes_on_with_each_deed(self):
        place = Place(sample(), "north")
        deeds = [
            lambda at: place.change("lv", 0, at), lambda at: place.change("lv", 1, at), place.send,
            lambda at: place.hears(("term", 0), at), lambda at: place.hears(("back", (0, 1)), at),
            lambda at: place.hears(("do", (0, 2), "open"), at),
        ]
        for at, deed in enumerate(deeds * 2):
            deed(at * 3)
            self.is_just(place.time(), at * 3)
            deed(at * 3)
            self.is_just(place.time(), at * 3)
            for other in deeds:
                if at:
                    self.stays(lambda: look(place), NotNow, at * 3 - 1, other, at * 3 - 1)

    def test_refused(self):
        def change(**named):
            place = Place(sample(), "north")
            place.change("v", 1, 5)
            ahead = look(place)
            try:
                return place.change(**named), look(place)
            except (NoPoint, NoWorth, NoTime, NoMark, NotNow):
                self.assertEqual(look(place), ahead)
                raise

        times = [("time", 5, NO_TIMES, NoTime), ("mark", "odd", NO_MARKS, NoMark)]
        self.look_at_arguments(change, ("point", "lv", wrong(HERE), NoPoint), ("worth", 9, NO_LEVELS, NoWorth), *times)
        self.look_at_arguments(change, ("point", "v", wrong(HERE), NoPoint), ("worth", 1, NO_SWITCHES, NoWorth), *times)
        for thing in NO_TIMES:
            self.refused(NoTime, thing, Place(sample(), "north").send, thing)
        # What hangs on what the place has comes last.
        self.refused(NoMark, "fine", change, point="lv", worth=1, time=4, mark="fine")
        self.refused(NotNow, 4, change, point="lv", worth=1, time=4)
        self.refused(NoPoint, "a", change, point="a", worth=64, time=4, mark="fine")
        self.refused(NoWorth, 2, change, point="v", worth=2, time=4, mark="fine")

    def test_no_places(self):
        self.look_at_arguments(
            lambda **named: Place(**named).marks(), ("works", sample(), NO_WORKS, NoWorks),
            ("name", "north", wrong(among("north", "east", "dam")), NoPlace),
        )

    def test_points_of_this_place_alone(self):
        place = Place(sample(), "east")
        for thing in wrong(EAST):
            for ask in (place.worth, place.mark):
                self.stays(lambda: look(place), NoPoint, thing, ask, thing)
        self.is_just((place.worth(point="a"), place.mark(point="s")), (0, "good"))


class SendTest(PanelCase):
    def test_what_was_not_sent_yet(self):
        place = Place(sample(), "north")
        place.change("lv", 5, 3)
        one = place.send(4)
        self.is_just(one, ("signs", "north", 1, 4, ((3, "lv", 5, "good"),)))
        self.is_just(place.waiting(), [])
        two = place.send(time=4)
        self.is_just(two, ("signs", "north", 2, 4, ()))
        place.change("lv", 6, 4)
        place.change("v", 1, 8)
        three = place.send(9)
        self.is_just(three, ("signs", "north", 3, 9, ((4, "lv", 6, "good"), (8, "v", 1, "good"))))
        self.assertEqual(len(place), 3)
        for number, letter in enumerate((one, two, three), 1):
            self.is_just(place.letter(number), letter)
            self.is_just(place.letter(number=number), letter)

    def test_a_letter_stays_as_it_was(self):
        place = Place(sample(), "north")
        place.change("lv", 5, 3)
        one = place.send(4)
        place.change("lv", 6, 9)
        place.send(9)
        place.hears(("do", (4, 1), "open"), 9)
        self.is_just(place.letter(1), one)

    def test_twelve_signs_and_more_that_wait(self):
        for many in (12, 13, 80):
            place = Place(sample(), "north")
            rows = [(at, "lv", at % 63 + 1, "good") for at in range(many)]
            for at, point, worth, _ in rows:
                place.change(point, worth, at)
            self.is_just(place.waiting(), rows)
            letter = place.send(90)
            self.is_just(letter, ("signs", "north", 1, 90, tuple(rows)))
            self.assertIs(is_signs(sample(), letter), many == 12)
            self.is_just(place.waiting(), [])

    def test_forty_letters(self):
        place = Place(sample(), "dam")
        for number in range(1, 41):
            place.change("w", number % 2, number)
            self.assertIs(is_signs(sample(), place.send(number)), True)
        self.assertEqual(len(place), 40)
        self.is_just(place.letter(40), ("signs", "dam", 40, 40, ((40, "w", 0, "good"),)))

    def test_not_there(self):
        place = Place(sample(), "north")
        self.refused(NotThere, 1, place.letter, 1)
        place.send(4)
        place.send(5)
        for thing in [*others(), 3, -2, "1", (1,), True]:
            if not whole(1, 2)(thing):
                self.stays(lambda: look(place), NotThere, thing, place.letter, thing)


class DoTest(PanelCase):
    def place_with(self, **worths):
        place = Place(sample(), "east")
        for point, worth in worths.items():
            place.change(point, worth, 3)
        return place

    def test_done(self):
        place = self.place_with(a=5)
        self.is_just(place.hears(("do", (4, 1), "fill"), 7), ("answer", "east", (4, 1), "done", 4, 7))
        self.is_just((place.worth("a"), place.mark("a"), place.time(), place.term()), (63, "good", 7, 4))
        self.is_just(place.waiting(), [(3, "a", 5, "good"), (7, "a", 63, "good")])
        self.is_just(place.met(), {(4, 1): "done"})
        self.is_just(place.done(), [((4, 1), "fill", 7)])

    def test_done_is_a_change_where_anything_is_otherwise(self):
        place = self.place_with(a=63)
        self.is_just(place.hears(("do", (0, 1), "fill"), 7), ("answer", "east", (0, 1), "done", 0, 7))
        self.is_just(place.waiting(), [(3, "a", 63, "good")])
        place.change("a", 63, 8, mark="odd")
        self.is_just(place.hears(time=9, letter=("do", (0, 2), "fill")), ("answer", "east", (0, 2), "done", 0, 9))
        self.is_just(place.waiting()[1:], [(8, "a", 63, "odd"), (9, "a", 63, "good")])
        self.is_just(place.done(), [((0, 1), "fill", 7), ((0, 2), "fill", 9)])

    def test_an_id_met_twice(self):
        place = self.place_with(a=5)
        place.hears(("do", (4, 1), "fill"), 7)
        place.change("a", 9, 8)
        for letter in (("do", (4, 1), "fill"), ("do", (4, 1), "drain"), ("do", (4, 1), "open"), ("back", (4, 1))):
            self.is_just(place.hears(letter, 9), ("answer", "east", (4, 1), "done", 4, 9))
        self.is_just((place.worth("a"), place.done()), (9, [((4, 1), "fill", 7)]))
        self.is_just(place.hears(("term", 8), 10), ("terms", "east", 8, 10))
        self.is_just(place.hears(("do", (4, 1), "fill"), 11), ("answer", "east", (4, 1), "done", 8, 11))

    def test_refused_stays_so(self):
        place = self.place_with()
        self.is_just(place.hears(("do", (4, 1), "drain"), 7), ("answer", "east", (4, 1), "refused", 4, 7))
        for point, worth in {"b": 1, "c": 2, "s": 1}.items():
            place.change(point, worth, 8)
        self.is_just(place.hears(("do", (4, 1), "drain"), 9), ("answer", "east", (4, 1), "refused", 4, 9))
        self.is_just(place.hears(("do", (4, 2), "drain"), 9), ("answer", "east", (4, 2), "done", 4, 9))
        self.is_just(place.met(), {(4, 1): "refused", (4, 2): "done"})

    def test_taken_back_ahead_of_its_order(self):
        place = self.place_with()
        self.is_just(place.hears(("back", (6, 1)), 7), ("answer", "east", (6, 1), "refused", 0, 7))
        self.is_just(place.term(), 0)
        self.is_just(place.hears(("do", (6, 1), "fill"), 8), ("answer", "east", (6, 1), "refused", 0, 8))
        self.is_just((place.worth("a"), place.term(), place.met()), (0, 0, {(6, 1): "refused"}))
        self.is_just(place.hears(("do", (0, 1), "fill"), 9), ("answer", "east", (0, 1), "done", 0, 9))

    def test_of_an_elder_term(self):
        place = self.place_with()
        place.hears(("do", (4, 1), "fill"), 7)
        self.is_just(place.hears(("do", (3, 1), "fill"), 8), ("answer", "east", (3, 1), "refused", 4, 8))
        self.is_just(place.hears(("do", (4, 2), "fill"), 8), ("answer", "east", (4, 2), "done", 4, 8))
        self.is_just(place.hears(("do", (5, 1), "fill"), 8), ("answer", "east", (5, 1), "done", 5, 8))
        self.is_just(place.hears(("do", (4, 3), "fill"), 8), ("answer", "east", (4, 3), "refused", 5, 8))
        self.is_just(place.hears(("do", (999, 999), "fill"), 8), ("answer", "east", (999, 999), "done", 999, 8))

    def test_a_command_of_another_place(self):
        place = self.place_with()
        self.is_just(place.hears(("do", (4, 1), "open"), 7), ("answer", "east", (4, 1), "refused", 4, 7))
        self.is_just((place.term(), place.met(), place.done()), (4, {(4, 1): "refused"}, []))

    def test_a_refused_one_s_term_counts(self):
        place = self.place_with()
        place.hears(("do", (4, 1), "drain"), 7)
        self.is_just(place.term(), 4)
        self.is_just(place.hears(("do", (2, 1), "fill"), 7), ("answer", "east", (2, 1), "refused", 4, 7))

    def test_locks_met_just_so_and_missed_by_one(self):
        just = {"a": 59, "b": 1, "c": 2, "s": 1}
        missed = {"a": 60, "b": 0, "c": 1, "s": 0}
        for names in itertools.chain.from_iterable(itertools.combinations("abcs", many) for many in range(5)):
            worths = {name: (missed if name in names else just)[name] for name in "abcs"}
            place = self.place_with(**worths)
            word = "refused" if names else "done"
            self.is_just(place.hears(("do", (0, 1), "drain"), 5), ("answer", "east", (0, 1), word, 0, 5))
            self.is_just(place.worth("b"), worths["b"] if names else 0)

    def test_locks_by_the_worths_there_whatever_the_mark(self):
        place = Place(sample(), "north")
        self.is_just(place.hears(("do", (0, 1), "open"), 5)[3], "refused")
        place.change("lv", 4, 6, mark="odd")
        self.is_just(place.hears(("do", (0, 2), "open"), 6)[3], "done")
        self.is_just(place.hears(("do", (0, 3), "open"), 6)[3], "refused")
        self.is_just(place.done(), [((0, 2), "open", 6)])

    def test_terms(self):
        place = self.place_with()
        for term, own in ((0, 0), (5, 5), (3, 5), (5, 5), (999, 999), (998, 999)):
            self.is_just(place.hears(("term", term), 7), ("terms", "east", own, 7))
            self.is_just(place.term(), own)
        self.is_just(place.met(), {})

    def test_ids_in_the_order_in_which_they_were_met(self):
        place = self.place_with()
        idents = [(4, 9), (0, 1), (4, 2), (999, 1), (1, 999)]
        for ident in idents:
            place.hears(("back", ident), 5)
        place.hears(("do", (0, 1), "fill"), 5)
        self.is_just(list(place.met()), idents)

    def test_refused(self):
        def hears(**named):
            place = self.place_with(a=5)
            place.hears(("do", (4, 1), "fill"), 7)
            ahead = look(place)
            try:
                return place.hears(**named), look(place)
            except (NoLetter, NoTime, NotNow):
                self.assertEqual(look(place), ahead)
                raise

        for letter in (("do", (4, 2), "fill"), ("back", (4, 1)), ("term", 9)):
            self.look_at_arguments(hears, ("letter", letter, no_orders(), NoLetter), ("time", 7, NO_TIMES, NoTime))
            self.refused(NotNow, 6, hears, letter=letter, time=6)
        self.refused(NoLetter, None, hears, letter=None, time=6)


class EqualTest(PanelCase):
    DEEDS = [
        lambda place: place.change("a", 5, 3), lambda place: place.change("s", 1, 3, mark="odd"),
        lambda place: place.send(4), lambda place: place.hears(("do", (4, 1), "fill"), 5),
        lambda place: place.hears(("back", (3, 1)), 5), lambda place: place.change("a", 5, 6),
        lambda place: place.hears(("term", 6), 6),
    ]

    def place_that_did(self, deeds, works=None):
        place = Place(works or sample(), "east")
        for deed in deeds:
            deed(place)
        return place

    def test_equal_deeds(self):
        for many in range(len(self.DEEDS) + 1):
            self.equal(self.place_that_did(self.DEEDS[:many]), self.place_that_did(self.DEEDS[:many]), True)

    def test_otherwise_in_one_thing(self):
        last = lambda place: place.send(7)
        one = self.place_that_did([*self.DEEDS, last])
        changed = [
            [deed for deed in self.DEEDS if deed != left] for left in self.DEEDS
        ] + [
            [*self.DEEDS[:3], self.DEEDS[4], self.DEEDS[3], *self.DEEDS[5:]], [*self.DEEDS, last],
            [lambda place: place.change("b", 5, 3), *self.DEEDS[1:]],
            [lambda place: place.change("a", 4, 3), *self.DEEDS[1:]],
            [self.DEEDS[0], lambda place: place.change("s", 1, 3), *self.DEEDS[2:]],
            [*self.DEEDS[:2], lambda place: place.send(3), *self.DEEDS[3:]],
            [*self.DEEDS[:3], lambda place: place.hears(("do", (4, 2), "fill"), 5), *self.DEEDS[4:]],
            [*self.DEEDS[:3], lambda place: place.hears(("do", (4, 1), "drain"), 5), *self.DEEDS[4:]],
            [*self.DEEDS[:6], lambda place: place.hears(("term", 8), 6)],
        ]
        for deeds in changed:
            self.equal(self.place_that_did([*deeds, last]), one, False)
        self.equal(self.place_that_did(self.DEEDS), one, False)
        # The same signs, in other letters, or not sent yet.
        self.equal(self.place_that_did(self.DEEDS[:2]), self.place_that_did(self.DEEDS[:3]), False)

    def test_the_time_alone(self):
        deeds = [lambda place: place.change("a", 0, 3)]
        self.equal(self.place_that_did(deeds), self.place_that_did([]), False)

    def test_works_and_names(self):
        self.equal(Place(sample(), "east"), Place(sample(), "north"), False)
        for works in other_works():
            self.assertFalse(Place(works, "east") == Place(sample(), "east"))
        for thing in others():
            self.assertFalse(Place(sample(), "east") == thing)
        self.assertIs(type(repr(Place(sample(), "east"))), str)

    def test_marks_are_plain(self):
        marks = self.place_that_did([*self.DEEDS, lambda place: place.send(7)]).marks()
        self.assertLessEqual(depth(marks), 5)
        for atom in atoms(marks):
            self.assertIn(type(atom), (int, str))

    def test_a_copy_goes_its_own_way(self):
        for deed in self.DEEDS:
            place = self.place_that_did(self.DEEDS)
            copy = place.copied()
            self.equal(place, copy, True)
            ahead = look(place)
            copy.change("a", 7, 8)
            copy.hears(("do", (6, 3), "fill"), 8)
            copy.send(9)
            self.assertEqual(look(place), ahead)
            self.equal(place, copy, False)
            place.change("a", 8, 10)
            self.is_just(copy.time(), 9)

    def test_told_anew(self):
        place = self.place_that_did(self.DEEDS)
        for ask in (place.waiting, place.met, place.done):
            self.told_anew(ask)


class AllDeedsTest(PanelCase):
    def test_by_chance(self):
        chance = random.Random(91)
        for _ in range(150):
            name = chance.choice(("north", "east", "dam"))
            works = sample()
            place, model, now = Place(works, name), PlaceModel(works, name), 0
            for _ in range(40):
                now += chance.choice((0, 0, 1, 3))
                time = now - chance.choice((0, 0, 0, 0, 0, 0, 0, 1)) if now else 0
                word = chance.choice(("change",) * 3 + ("send", "do", "do", "do", "back", "term"))
                things, named = (time,), {}
                if word == "change":
                    point = chance.choice(works.points_at(name))
                    things = (point, chance.choice((0, 1, worth_of(chance, works, point))), time)
                    named = chance.choice(({}, {"mark": "odd"}))
                elif word != "send":
                    ident = (chance.randrange(6), chance.randint(1, 3))
                    letter = {
                        "do": ("do", ident, chance.choice(COMMANDS)[0]), "back": ("back", ident),
                        "term": ("term", ident[0]),
                    }[word]
                    word, things = "hears", (letter, time)
                try:
                    told = getattr(model, word)(*things, **named)
                except Refused as refused:
                    self.stays(lambda: look(place), refused.error, refused.value, getattr(place, word), *things,
                               **named)
                else:
                    self.is_just(getattr(place, word)(*things, **named), told)
                self.is_just(look_at_place(place, works), model.look())
                self.assertTrue(place == place.copied())


if __name__ == "__main__":
    unittest.main()
