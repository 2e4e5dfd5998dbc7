"""Tests of panelwatch.rooms: points 101 to 108; of their logs see tests/test_roomlogs.py."""

import random
import unittest

from panelwatch.alarms import raised_by
from panelwatch.errors import (
    Locked, NoCommand, NoId, NoLetter, NoNumber, NoPoint, NoRoom, NoRule, NoTime, NotNow, NotThere, NoWorks, NoWorth,
    TooMany, Unlike,
)
from panelwatch.hearing import Hearing
from panelwatch.letters import is_letter, is_order
from panelwatch.lists import alarm_list
from panelwatch.plainroom import PlainRoom
from panelwatch.rooms import Room, room_of
from panelwatch.works import Works
from tests.chances import mixed, other_works, sent
from tests.models import RoomModel, look_at_room
from tests.test_lists import some_shelves
from tests.test_places import atoms
from tests.things import POINTS, PanelCase, among, no_signs, others, sample, whole, wrong

NO_WORKS = wrong(lambda thing: isinstance(thing, Works))
NO_TIMES = [*wrong(whole(0, 9999)), True, 10000]
NO_ROOMS = [*wrong(whole(0, 1)), True, 2]
NO_COMMANDS = wrong(among("open", "fill", "drain"))
NO_RULES = wrong(among("high", "low", "far", "shut"))
NO_POINTS = wrong(among(*[row[0] for row in POINTS]))


def is_id(thing):
    return type(thing) is tuple and len(thing) == 2 and whole(0, 999)(thing[0]) and whole(1, 999)(thing[1])


NO_IDS = [
    *wrong(is_id),
    [0, 1], (0, True), (True, 1), (0, 0), (0, 1000), (1000, 1), (-1, 1), (0, 1, 2), (0,), "0 1",
]
MOMENTS = (0, 3, 5, 7, 9, 20, 9999)
SIGNS = ("signs", "north", 1, 9, ((3, "lv", 46, "good"), (7, "v", 1, "odd")))


def no_letters():
    """Things that are no letters of places, near ones and orders too."""
    good = [("terms", "north", 4, 5), ("answer", "north", (4, 1), "done", 4, 5)]
    near = [
        *[list(letter) for letter in good], *[letter[:-1] for letter in good], *[(*letter, 1) for letter in good],
        ("terms", "zz", 4, 5), ("terms", "north", 1000, 5), ("terms", "north", True, 5), ("terms", "north", 4, 10000),
        ("answer", "zz", (4, 1), "done", 4, 5), ("answer", "north", [4, 1], "done", 4, 5),
        ("answer", "north", (4, 0), "done", 4, 5), ("answer", "north", (4, 1), "asked", 4, 5),
        ("answer", "north", (4, 1), "done", None, 5), ("answer", "north", (4, 1), "done", 4, True),
        ("do", (0, 1), "open"), ("back", (0, 1)), ("term", 4),
    ]
    return [
        thing for thing in [*near, *no_signs()]
        if not is_letter(sample(), thing) or is_order(sample(), thing)
    ]


def answer(ident, word, term=0, place="east", time=5):
    return ("answer", place, ident, word, term, time)


def look(room):
    return look_at_room(room, MOMENTS), room.marks(), room.alarms(20)


def room_that_asked(*, number=0, wait=10):
    """A room that chose three commands, and asked for the first one."""
    room = Room(sample(), number)
    if number:
        room.take_over(0)
    for command in ("fill", "open", "fill"):
        room.choose(command, 1)
    room.do((number, 1), 2, wait=wait)
    return room


class NewTest(PanelCase):
    def test_at_first(self):
        for number, term in ((0, 0), (1, None)):
            room = Room(sample(), number)
            self.is_just((room.number(), room.term(), room.knows()), (number, term, term))
            self.is_just((room.ids(0), room.shelves(), room.log()), ([], [], []))
            self.assertEqual(room.works(), sample())
            self.assertEqual(room.hearing(), Hearing(sample()))
            self.is_just(room.show("lv", 0), (None, None, None, "open"))
            self.is_just(room.picture(5), {name: None for name, _, _ in POINTS})
            self.is_just(room.alarms(0), ([], 0))

    def test_refused(self):
        self.look_at_arguments(
            lambda **named: Room(**named).marks(), ("works", sample(), NO_WORKS, NoWorks),
            ("number", 1, NO_ROOMS, NoRoom),
        )

    def test_hearing_is_a_copy(self):
        room = Room(sample(), 0)
        room.hearing().hear(SIGNS)
        self.assertEqual(len(room.hearing()), 0)


class HearsTest(PanelCase):
    def test_signs(self):
        room = Room(sample(), 0)
        self.assertIs(room.hears(SIGNS, 9), True)
        self.assertIs(room.hears(SIGNS, 12), False)
        self.assertIs(room.hears(time=12, letter=("signs", "north", 2, 9, ())), True)
        self.is_just(room.log(), [("heard", SIGNS, 9), ("heard", ("signs", "north", 2, 9, ()), 12)])
        self.is_just(room.show("lv", 5), (46, 3, "good", "sure"))
        self.is_just(room.show(at=9, point="v"), (1, 7, "odd", "open"))
        self.is_just(room.hearing().letters(), [SIGNS, ("signs", "north", 2, 9, ())])

    def test_unlike(self):
        room = Room(sample(), 0)
        room.hears(SIGNS, 9)
        for letter in (("signs", "north", 1, 9, ()), ("signs", "north", 2, 8, ())):
            self.stays(lambda: look(room), Unlike, letter, room.hears, letter, 9)
            # The time is looked at ahead of what the room has heard.
            self.stays(lambda: look(room), NotNow, 8, room.hears, letter, 8)

    def test_terms(self):
        for number in (0, 1):
            room = Room(sample(), number)
            own = room.term()
            changes = []
            for at, term in enumerate((0, 3, 2, 3, 999)):
                changes.append(room.hears(("terms", "dam", term, 0), at))
                self.is_just(room.term(), own)
            self.is_just(changes, [number == 1, True, False, False, True])
            self.is_just(room.knows(), 999)

    def test_its_time_counts_for_nothing_where_nothing_changes(self):
        room = Room(sample(), 0)
        room.hears(SIGNS, 9)
        for letter in (SIGNS, ("terms", "dam", 0, 0), answer((0, 1), "done")):
            ahead = look(room)
            self.assertIs(room.hears(letter, 50), False)
            self.assertEqual(look(room), ahead)
        self.assertIs(room.hears(("terms", "dam", 1, 0), 9), True)

    def test_the_first_answer_ends_it(self):
        for word, other in (("done", "refused"), ("refused", "done")):
            for place in ("east", "north"):
                room = room_that_asked()
                self.assertIs(room.hears(answer((0, 1), word, place=place), 4), True)
                self.is_just(room.state((0, 1), 4), word)
                for row in ((0, 1), word), ((0, 1), other):
                    self.assertIs(room.hears(answer(*row), 5), False)
                self.assertIs(room.hears(answer((0, 1), other, term=1), 5), True)
                self.is_just([room.state((0, 1), at) for at in MOMENTS], [word] * len(MOMENTS))
                self.is_just(room.knows(), 1)

    def test_answers_to_others_tell_of_the_term_alone(self):
        room = room_that_asked()
        room.back((0, 3), 3)
        ahead = room.ids(4)
        for ident in ((0, 2), (0, 3), (0, 4), (1, 1), (2, 1)):
            self.assertIs(room.hears(answer(ident, "done"), 4), False)
        for at, ident in enumerate(((0, 2), (0, 3), (0, 4), (1, 1), (2, 1)), 1):
            self.assertIs(room.hears(answer(ident, "done", term=at), 4), True)
            self.is_just(room.knows(), at)
        self.is_just(room.ids(4), ahead)
        self.assertIs(room.hears(answer((0, 1), "done", term=5), 4), True)
        self.is_just(room.state((0, 1), 4), "done")

    def test_the_answer_s_own_term_counts_not_the_id_s(self):
        room = Room(sample(), 1)
        self.assertIs(room.hears(answer((9, 1), "refused", term=2), 0), True)
        self.is_just(room.knows(), 2)

    def test_refused(self):
        def hears(**named):
            room = room_that_asked()
            ahead = look(room)
            try:
                return room.hears(**named), look(room)
            except (NoLetter, NoTime, NotNow):
                self.assertEqual(look(room), ahead)
                raise

        for letter in (SIGNS, ("terms", "north", 4, 5), answer((0, 1), "done")):
            self.look_at_arguments(hears, ("letter", letter, no_letters(), NoLetter), ("time", 7, NO_TIMES, NoTime))
            self.refused(NotNow, 1, hears, letter=letter, time=1)
        self.refused(NoLetter, ("term", 4), hears, letter=("term", 4), time=1)


class TakeOverTest(PanelCase):
    def test_the_least_of_its_own_above_the_greatest(self):
        rows = [(0, None, 2), (0, 1, 2), (0, 2, 4), (0, 3, 4), (1, None, 1), (1, 0, 1), (1, 1, 3), (1, 4, 5),
                (0, 996, 998), (0, 997, 998), (1, 997, 999), (1, 998, 999)]
        for number, heard, term in rows:
            room = Room(sample(), number)
            if heard is not None:
                room.hears(("terms", "dam", heard, 0), 0)
            told = room.take_over(5)
            self.is_just(told, [(place, ("term", term)) for place in ("dam", "east", "north")])
            self.is_just((room.term(), room.knows(), room.log()[-1]), (term, term, ("over", 5)))

    def test_none_behind_the_last_ones(self):
        for number, heard in ((0, 998), (0, 999), (1, 999)):
            room = Room(sample(), number)
            room.hears(("terms", "dam", heard, 0), 4)
            self.stays(lambda: look(room), TooMany, 1000, room.take_over, 5)
            self.stays(lambda: look(room), NotNow, 3, room.take_over, 3)
            self.stays(lambda: look(room), NoTime, None, room.take_over, None)

    def test_by_turns(self):
        rooms = [Room(sample(), 0), Room(sample(), 1)]
        for at in range(1, 40):
            rooms[at % 2].take_over(at)
            rooms[1 - at % 2].hears(("terms", "dam", at, at), at)
            self.is_just([room.term() for room in rooms], [at - at % 2, at - 1 + at % 2] if at > 1 else [0, 1])
            self.is_just([room.knows() for room in rooms], [at, at])

    def test_refused(self):
        def take_over(**named):
            return Room(sample(), 1).take_over(**named)

        self.look_at_arguments(take_over, ("time", 7, NO_TIMES, NoTime))


class ChooseTest(PanelCase):
    def test_ids_by_number_in_each_term(self):
        room = Room(sample(), 0)
        self.is_just([room.choose("fill", 0), room.choose("open", 0)], [(0, 1), (0, 2)])
        room.back((0, 1), 1)
        self.is_just(room.choose(time=1, command="drain"), (0, 3))
        room.take_over(2)
        self.is_just([room.choose("fill", 2), room.choose("fill", 3)], [(2, 1), (2, 2)])
        rows = [((0, 1), "fill", "dropped"), ((0, 2), "open", "chosen"), ((0, 3), "drain", "chosen"),
                ((2, 1), "fill", "chosen"), ((2, 2), "fill", "chosen")]
        self.is_just(room.ids(5), rows)
        self.is_just(room.log()[-1], ("chosen", "fill", 3))

    def test_up_to_999(self):
        room = Room(sample(), 0)
        for number in range(1, 1000):
            self.is_just(room.choose("fill", 1), (0, number))
        self.stays(lambda: (room.ids(1), room.log(), room.marks()), TooMany, 1000, room.choose, "fill", 1)
        room.take_over(1)
        self.is_just(room.choose("fill", 1), (2, 1))
        # What does not lock goes ahead.
        room = room_of(sample(), 0, [("hand", "lv", 3, 0, 9, 0), *[("chosen", "fill", 1)] * 999])
        self.refused(Locked, ("lv", "above", 3), room.choose, "open", 1)
        self.refused(TooMany, 1000, room.choose, "fill", 1)

    def test_not_now_of_its_term(self):
        room = Room(sample(), 1)
        self.stays(lambda: look(room), NotNow, None, room.choose, "fill", 1)
        self.stays(lambda: look(room), NotNow, None, room.do, (1, 1), 1)
        room.take_over(1)
        room.choose("fill", 1)
        room.hears(("terms", "dam", 1, 0), 1)
        room.choose("fill", 1)
        room.hears(("terms", "dam", 2, 0), 1)
        self.stays(lambda: look(room), NotNow, 1, room.choose, "fill", 1)
        # Ahead of what hangs on the id, and on the locks.
        for ident in ((1, 1), (9, 9)):
            self.stays(lambda: look(room), NotNow, 1, room.do, ident, 1)
        room.hand("lv", 3, 0, 99, 1)
        self.stays(lambda: look(room), NotNow, 1, room.choose, "open", 1)
        self.stays(lambda: look(room), NotNow, 0, room.choose, "open", 0)
        room.take_over(2)
        self.is_just(room.term(), 3)
        self.is_just(room.do((1, 1), 2), ("east", ("do", (1, 1), "fill")))

    def test_locked(self):
        def choose(command, *rows):
            room = Room(sample(), 0)
            room.hears(("signs", "north", 1, 9, tuple((3, *row, "good") for row in rows if row[0] in ("lv", "v"))), 4)
            room.hears(("signs", "east", 1, 9, tuple((3, *row, "odd") for row in rows if row[0] in "abcs")), 4)
            return room.choose(command, 4)

        self.is_just(choose("open", ("lv", 4), ("v", 0)), (0, 1))
        self.refused(Locked, ("lv", "above", 3), choose, "open", ("lv", 3), ("v", 0))
        self.refused(Locked, ("v", "below", 1), choose, "open", ("lv", 4), ("v", 1))
        self.refused(Locked, ("v", "below", 1), choose, "open", ("lv", 3), ("v", 1))
        self.is_just(choose("drain", ("a", 59), ("b", 1), ("c", 2), ("s", 1)), (0, 1))
        self.refused(Locked, ("c", "above", 1), choose, "drain", ("a", 59), ("b", 1), ("c", 1), ("s", 0))
        self.refused(Locked, ("a", "below", 60), choose, "drain", ("a", 60), ("b", 0), ("c", 1), ("s", 0))

    def test_locks_of_points_that_aren_t_shown_count_for_nothing(self):
        room = Room(sample(), 0)
        self.is_just(room.choose("open", 0), (0, 1))
        room.hears(("signs", "north", 1, 9, ((3, "lv", 3, "good"),)), 4)
        self.refused(Locked, ("lv", "above", 3), room.choose, "open", 4)

    def test_by_the_picture_of_its_time(self):
        room = Room(sample(), 0)
        room.hears(("signs", "north", 1, 30, ((6, "lv", 3, "good"), (9, "lv", 4, "good"))), 5)
        room.choose("open", 5)
        for at in (6, 8):
            self.refused(Locked, ("lv", "above", 3), room.choose, "open", at)
        room.hand("lv", 9, 7, 8, 7)
        room.choose("open", 7)
        self.refused(Locked, ("lv", "above", 3), room.choose, "open", 8)
        room.choose("open", 9)

    def test_refused(self):
        def choose(**named):
            room = room_that_asked()
            ahead = look(room)
            try:
                return room.choose(**named), look(room)
            except (NoCommand, NoTime, NotNow):
                self.assertEqual(look(room), ahead)
                raise

        self.look_at_arguments(choose, ("command", "fill", NO_COMMANDS, NoCommand), ("time", 7, NO_TIMES, NoTime))
        self.refused(NotNow, 1, choose, command="fill", time=1)
        self.refused(NoCommand, "zz", choose, command="zz", time=1)


class DoTest(PanelCase):
    def test_letters(self):
        room = Room(sample(), 0)
        for command in ("fill", "open"):
            room.choose(command, 1)
        self.is_just(room.do((0, 2), 3), ("north", ("do", (0, 2), "open")))
        self.is_just(room.do(wait=5, time=4, ident=(0, 1)), ("east", ("do", (0, 1), "fill")))
        self.is_just(room.log()[-2:], [("did", (0, 2), 3, 10), ("did", (0, 1), 4, 5)])

    def test_asked_and_unknown(self):
        for wait in (1, 10, 999):
            room = room_that_asked(wait=wait)
            at = 2 + wait
            self.is_just([room.state((0, 1), time) for time in (0, 2, at - 1)], ["asked"] * 3)
            self.is_just([room.state(ident=(0, 1), at=time) for time in (at, at + 1, 9999)], ["unknown"] * 3)
            self.is_just(room.ids(at=at - 1)[0], ((0, 1), "fill", "asked"))
            self.is_just(room.ids(at)[0], ((0, 1), "fill", "unknown"))
        room = Room(sample(), 0)
        room.choose("fill", 9999)
        room.do((0, 1), 9999, wait=1)
        self.is_just(room.state((0, 1), 9999), "asked")

    def test_ten_where_the_wait_is_left_out(self):
        room = room_that_asked()
        room.do((0, 2), 20)
        self.is_just((room.state((0, 2), 29), room.state((0, 2), 30)), ("asked", "unknown"))

    def test_again(self):
        room = room_that_asked(wait=5)
        self.is_just(room.again((0, 1), 6), ("east", ("do", (0, 1), "fill")))
        self.is_just((room.state((0, 1), 10), room.state((0, 1), 11)), ("asked", "unknown"))
        self.is_just(room.again(time=40, ident=(0, 1)), ("east", ("do", (0, 1), "fill")))
        self.is_just((room.state((0, 1), 44), room.state((0, 1), 45)), ("asked", "unknown"))
        self.is_just(room.log()[-2:], [("again", (0, 1), 6), ("again", (0, 1), 40)])
        # It writes its row always: at one time, too.
        room.again((0, 1), 40)
        self.assertEqual(len(room.log()), 7)

    def test_back(self):
        room = room_that_asked(wait=5)
        self.assertIs(room.back((0, 2), 3), None)
        self.is_just(room.state((0, 2), 3), "dropped")
        self.is_just(room.back((0, 1), 6), ("east", ("back", (0, 1))))
        self.is_just((room.state((0, 1), 10), room.state((0, 1), 11)), ("asked", "unknown"))
        self.is_just(room.back(time=11, ident=(0, 1)), ("east", ("back", (0, 1))))
        self.is_just(room.again((0, 1), 12), ("east", ("do", (0, 1), "fill")))
        self.is_just(room.state((0, 1), 16), "asked")
        self.is_just(room.log()[-4:], [("back", (0, 2), 3), ("back", (0, 1), 6), ("back", (0, 1), 11),
                                       ("again", (0, 1), 12)])
        room.hears(answer((0, 1), "refused"), 13)
        self.is_just(room.state((0, 1), 99), "refused")

    def test_again_and_back_whatever_terms_it_knows(self):
        room = room_that_asked(number=1)
        room.hears(("terms", "dam", 8, 0), 5)
        self.is_just(room.again((1, 1), 6), ("east", ("do", (1, 1), "fill")))
        self.is_just(room.back((1, 1), 6), ("east", ("back", (1, 1))))
        self.assertIs(room.back((1, 2), 6), None)

    def test_not_now_of_an_id(self):
        room = room_that_asked()
        room.back((0, 3), 3)
        for ident, words in {(0, 1): ["do"], (0, 2): ["again"], (0, 3): ["do", "again", "back"]}.items():
            for word in words:
                self.stays(lambda: look(room), NotNow, ident, getattr(room, word), ident, 4)
        self.stays(lambda: look(room), NotNow, (0, 1), room.do, (0, 1), 50)
        for word in ("done", "refused"):
            ended = room.copied()
            ended.hears(answer((0, 1), word), 5)
            for deed in (ended.do, ended.again, ended.back):
                self.stays(lambda: look(ended), NotNow, (0, 1), deed, (0, 1), 6)

    def test_not_there(self):
        room = room_that_asked()
        for ident in ((0, 4), (1, 1), (2, 1), (999, 999)):
            for deed in (room.do, room.again, room.back):
                self.stays(lambda: look(room), NotThere, ident, deed, ident, 4)
                self.stays(lambda: look(room), NotNow, 1, deed, ident, 1)
            self.stays(lambda: look(room), NotThere, ident, room.state, ident, 4)

    def test_refused(self):
        def refusing(name, ident):
            def deed(**named):
                room = room_that_asked()
                ahead = look(room)
                try:
                    return getattr(room, name)(**named), look(room)
                except (NoId, NoTime, NoNumber, NotNow):
                    self.assertEqual(look(room), ahead)
                    raise

            rows = [("ident", ident, NO_IDS, NoId), ("at" if name == "state" else "time", 7, NO_TIMES, NoTime)]
            if name == "do":
                rows.append(("wait", 999, [*wrong(whole(1, 999)), True, 0, 1000], NoNumber))
            self.look_at_arguments(deed, *rows)
            return deed

        for name, ident in (("do", (0, 2)), ("again", (0, 1)), ("back", (0, 1)), ("state", (0, 1))):
            deed = refusing(name, ident)
            if name != "state":
                self.refused(NotNow, 1, deed, ident=ident, time=1)
                self.refused(NoId, (0, 0), deed, ident=(0, 0), time=1)
        self.refused(NoNumber, 0, room_that_asked().do, (0, 2), 1, wait=0)
        self.look_at_arguments(room_that_asked().ids, ("at", 7, NO_TIMES, NoTime))


class HandTest(PanelCase):
    def test_hands(self):
        room = Room(sample(), 0)
        room.hears(SIGNS, 9)
        self.assertIs(room.hand("lv", 5, 4, 30, 9), None)
        self.assertIs(room.hand(time=10, end=12, since=8, worth=6, point="lv"), None)
        self.is_just([room.show("lv", at) for at in (3, 4, 8, 11, 12, 29, 30)], [
            (46, 3, "good", "sure"), (5, 4, "good", "hand"), (6, 8, "good", "hand"), (6, 8, "good", "hand"),
            (5, 4, "good", "hand"), (5, 4, "good", "hand"), (46, 3, "good", "open"),
        ])
        self.assertIs(room.unhand("lv", 11), None)
        self.is_just(room.hearing().hands(), [("lv", 5, 4, 30), ("lv", 6, 8, 11)])
        room.unhand(time=11, point="lv")
        self.is_just(room.hearing().hands(), [("lv", 5, 4, 11), ("lv", 6, 8, 11)])
        self.stays(lambda: look(room), NotThere, "lv", room.unhand, "lv", 11)
        self.is_just(room.log()[1:], [
            ("hand", "lv", 5, 4, 30, 9), ("hand", "lv", 6, 8, 12, 10), ("unhand", "lv", 11), ("unhand", "lv", 11),
        ])

    def test_at_the_very_begin(self):
        room = Room(sample(), 0)
        room.hand("lv", 5, 4, 30, 2)
        self.stays(lambda: look(room), NotThere, "lv", room.unhand, "lv", 3)
        room.unhand("lv", 4)
        self.is_just(room.hearing().hands(), [])
        self.is_just(room.log()[-1], ("unhand", "lv", 4))

    def test_hands_change_nothing_else(self):
        room = room_that_asked()
        room.hears(SIGNS, 9)
        ahead = look(room)
        room.hand("lv", 5, 4, 30, 9)
        self.is_just(room.alarms(20), ahead[2])
        self.is_just(room.hearing().history("lv"), [(3, 46, "good")])
        self.is_just(room.show("v", 7), (1, 7, "odd", "sure"))

    def test_refused(self):
        def refusing(name):
            def deed(**named):
                room = room_that_asked()
                room.hand("lv", 1, 0, 99, 3)
                ahead = look(room)
                try:
                    return getattr(room, name)(**named), look(room)
                except (NoPoint, NoWorth, NoTime, NotNow):
                    self.assertEqual(look(room), ahead)
                    raise

            return deed

        hand, unhand = refusing("hand"), refusing("unhand")
        point, time = ("point", "lv", NO_POINTS, NoPoint), ("time", 7, NO_TIMES, NoTime)
        self.look_at_arguments(
            hand, point, ("worth", 9, wrong(whole(0, 63)), NoWorth), ("since", 3, NO_TIMES, NoTime),
            ("end", 9, NO_TIMES, NoTime), time,
        )
        self.look_at_arguments(unhand, point, time)
        good = {"point": "v", "worth": 1, "since": 5, "end": 6, "time": 2}
        self.refused(NoWorth, 2, hand, **{**good, "worth": 2, "end": 5})
        for end in (5, 4, 0):
            self.refused(NoTime, end, hand, **{**good, "end": end})
            self.refused(NoTime, -1, hand, **{**good, "end": end, "time": -1})
        self.refused(NotNow, 2, hand, **good)
        self.refused(NotNow, 2, unhand, point="lv", time=2)
        self.refused(NotNow, 2, unhand, point="v", time=2)
        self.refused(NoPoint, "zz", unhand, point="zz", time=2)


class ShelveTest(PanelCase):
    def test_shelves(self):
        room = Room(sample(), 0)
        self.assertIs(room.shelve("high", 3, 9, 5), None)
        self.assertIs(room.shelve(time=6, end=20, since=0, rule="low"), None)
        room.shelve("high", 5, 30, 6)
        room.shelve("high", 7, 8, 6)
        room.shelve("high", 8, 40, 6)
        self.is_just(room.shelves(), [("high", 3, 9), ("low", 0, 20), ("high", 5, 30), ("high", 7, 8), ("high", 8, 40)])
        self.assertIs(room.unshelve("high", 7), None)
        # That which began just then is gone, those that count end in their place, the later one stays.
        self.is_just(room.shelves(), [("high", 3, 7), ("low", 0, 20), ("high", 5, 7), ("high", 8, 40)])
        room.unshelve(time=19, rule="low")
        self.is_just(room.shelves(), [("high", 3, 7), ("low", 0, 19), ("high", 5, 7), ("high", 8, 40)])
        self.is_just(room.log()[-2:], [("unshelved", "high", 7), ("unshelved", "low", 19)])
        self.is_just(room.log()[0], ("shelved", "high", 3, 9, 5))

    def test_none_that_counts(self):
        room = Room(sample(), 0)
        self.refused(NotThere, "high", room.unshelve, "high", 0)
        room.shelve("high", 3, 9, 2)
        self.stays(lambda: look(room), NotThere, "high", room.unshelve, "high", 2)
        self.stays(lambda: look(room), NotThere, "low", room.unshelve, "low", 3)
        self.stays(lambda: look(room), NotThere, "high", room.unshelve, "high", 9)
        self.stays(lambda: look(room), NotNow, 1, room.unshelve, "high", 1)
        room.unshelve("high", 8)
        self.stays(lambda: look(room), NotThere, "high", room.unshelve, "high", 8)

    def test_at_the_very_begin(self):
        room = Room(sample(), 0)
        room.shelve("high", 3, 9, 2)
        room.unshelve("high", 3)
        self.is_just(room.shelves(), [])

    def test_twenty_and_the_twenty_first(self):
        room = Room(sample(), 0)
        for at in range(20):
            room.shelve("high", at, at + 2, 1)
        self.stays(lambda: look(room), TooMany, 21, room.shelve, "low", 3, 9, 1)
        self.stays(lambda: look(room), NotNow, 0, room.shelve, "low", 3, 9, 0)
        self.stays(lambda: look(room), NoTime, 3, room.shelve, "low", 3, 3, 0)
        # Those that have ended stand there, too; one that is gone makes room.
        self.stays(lambda: look(room), TooMany, 21, room.shelve, "low", 50, 60, 40)
        room.unshelve("high", 1)
        self.assertEqual(len(room.shelves()), 19)
        room.shelve("low", 3, 9, 1)
        self.refused(TooMany, 21, room.shelve, "low", 3, 9, 1)

    def test_refused(self):
        def refusing(name):
            def deed(**named):
                room = room_that_asked()
                room.shelve("high", 0, 99, 3)
                ahead = look(room)
                try:
                    return getattr(room, name)(**named), look(room)
                except (NoRule, NoTime, NotNow):
                    self.assertEqual(look(room), ahead)
                    raise

            return deed

        shelve, unshelve = refusing("shelve"), refusing("unshelve")
        rule, time = ("rule", "high", NO_RULES, NoRule), ("time", 7, NO_TIMES, NoTime)
        self.look_at_arguments(shelve, rule, ("since", 3, NO_TIMES, NoTime), ("end", 9, NO_TIMES, NoTime), time)
        self.look_at_arguments(unshelve, rule, time)
        for end in (5, 4, 0):
            self.refused(NoTime, end, shelve, rule="high", since=5, end=end, time=1)
            self.refused(NoTime, 10000, shelve, rule="high", since=5, end=end, time=10000)
        self.refused(NotNow, 1, shelve, rule="high", since=5, end=6, time=1)
        self.refused(NoRule, "zz", unshelve, rule="zz", time=1)


class TimesTest(PanelCase):
    DEEDS = [
        lambda room, at: room.hears(("terms", "dam", 2 * at, 0), at), lambda room, at: room.take_over(at),
        lambda room, at: room.choose("fill", at), lambda room, at: room.hand("a", 1, 0, 99, at),
        lambda room, at: room.shelve("high", 0, 99, at), lambda room, at: room.unshelve("high", at),
        lambda room, at: room.unhand("a", at), lambda room, at: room.back((0, 1), at),
        lambda room, at: room.do((0, 2), at), lambda room, at: room.again((0, 2), at),
    ]

    def test_at_the_last_deed_s_time_and_one_ahead_of_it(self):
        # Each deed is done at its number, and would be refused one tick ahead.
        order = [2, 2, 2, 8, 9, 7, 3, 6, 4, 5, 0, 1, 2, 3, 4]
        room = Room(sample(), 0)
        for at, which in enumerate(order, 1):
            deed = self.DEEDS[which]
            deed(room.copied(), at - 1)
            deed(room, at)
            for other in self.DEEDS:
                self.stays(lambda: look(room), NotNow, at - 1, other, room, at - 1)
            self.assertEqual(len(room.log()), at)


class ToldTest(PanelCase):
    def test_alarms_by_what_was_heard(self):
        chance = random.Random(107)
        for _ in range(12):
            room = Room(sample(), chance.randrange(2))
            letters = mixed(chance, sent(chance, sample(), 10))
            for letter in letters:
                room.hears(letter, 5)
            for rule, since, end in some_shelves(chance, [row[0] for row in sample().rules()]):
                room.shelve(rule, since, end, 6)
            for at in range(0, 90, 9):
                events = {name: raised_by(room.hearing(), name, at) for name, *_ in sample().rules()}
                for most in (1, 2, 9, 99):
                    told = alarm_list(sample(), events, at, shelves=room.shelves(), most=most)
                    self.is_just(room.alarms(at, most=most), told)
                model = RoomModel(sample(), room.number(), room.log())
                self.is_just(room.alarms(at=at), model.alarms(at))

    def test_alarms_refused(self):
        numbers = [*wrong(whole(1, 99)), True, 0, 100]
        for room in (room_that_asked(), Room(Works(POINTS), 0)):
            self.look_at_arguments(room.alarms, ("at", 7, NO_TIMES, NoTime), ("most", 9, numbers, NoNumber))

    def test_show_and_picture_refused(self):
        room = room_that_asked()
        self.look_at_arguments(room.show, ("point", "lv", NO_POINTS, NoPoint), ("at", 7, NO_TIMES, NoTime))
        self.look_at_arguments(room.picture, ("at", 7, NO_TIMES, NoTime))

    def test_picture(self):
        room = Room(sample(), 0)
        room.hears(SIGNS, 9)
        room.hand("a", 7, 0, 9, 9)
        self.is_just(room.picture(8), {"lv": 46, "v": 1, "a": 7, "b": None, "c": None, "s": None, "w": None})

    def test_told_anew(self):
        room = room_that_asked()
        room.hears(("signs", "north", 1, 9, ((3, "lv", 46, "good"),)), 9)
        room.shelve("low", 0, 99, 9)
        for ask in (room.log, room.shelves, lambda: room.ids(5), lambda: room.picture(5), lambda: room.alarms(9)):
            self.told_anew(ask)
        self.told_anew(lambda: Room(sample(), 0).take_over(3))

    def test_shows_the_same(self):
        """Point 108: two rooms that heard the same, with the same hands and shelves, show the same."""
        chance = random.Random(108)
        for _ in range(20):
            letters = sent(chance, sample(), 8)
            rooms = [Room(sample(), 0), Room(sample(), 1)]
            rooms[0].choose("fill", 0)
            rooms[1].hears(("terms", "dam", 7, 0), 0)
            for room in rooms:
                for letter in mixed(chance, letters):
                    room.hears(letter, 3)
                room.hand("lv", 5, 10, 20, 4)
                room.shelve("high", 5, 30, 4)
            plain = PlainRoom(sample(), letters, hands=[("lv", 5, 10, 20)])
            for at in range(0, 60, 3):
                self.is_just(rooms[0].picture(at), rooms[1].picture(at))
                self.is_just(rooms[0].alarms(at), rooms[1].alarms(at))
                for name, _, _ in POINTS:
                    self.is_just(rooms[0].show(name, at), rooms[1].show(name, at))
                    self.is_just(rooms[0].show(name, at), plain.show(name, at))


class EqualTest(PanelCase):
    ROWS = [
        ("heard", SIGNS, 1), ("chosen", "fill", 2), ("chosen", "fill", 2), ("did", (0, 1), 3, 5), ("again", (0, 1), 4),
        ("hand", "lv", 5, 4, 30, 5), ("hand", "a", 5, 4, 30, 5), ("shelved", "high", 3, 9, 6),
        ("shelved", "low", 3, 9, 6), ("back", (0, 2), 7), ("heard", ("terms", "dam", 3, 0), 7), ("over", 8),
    ]

    def room(self, rows, number=0):
        return room_of(sample(), number, rows)

    def test_equal_rows(self):
        for many in range(len(self.ROWS) + 1):
            self.equal(self.room(self.ROWS[:many]), self.room(tuple(self.ROWS[:many])), True)

    def test_otherwise_in_one_thing(self):
        rows = self.ROWS
        changes = {
            0: ("heard", ("signs", "north", 1, 9, ()), 1), 1: ("chosen", "drain", 2), 3: ("did", (0, 1), 3, 6),
            5: ("hand", "lv", 6, 4, 30, 5), 6: ("hand", "a", 5, 4, 31, 5), 7: ("shelved", "high", 3, 10, 6),
            8: ("shelved", "far", 3, 9, 6), 10: ("heard", ("terms", "dam", 4, 0), 7), 11: ("over", 9),
            4: ("back", (0, 1), 5),
        }
        for at, row in changes.items():
            self.equal(self.room(rows), self.room([*rows[:at], row, *rows[at + 1:]]), False)
        for at in range(len(rows)):
            if at not in (1, 3, 2):
                self.equal(self.room(rows), self.room([*rows[:at], *rows[at + 1:]]), False)
        for one, other in ((5, 6), (7, 8)):
            turned = list(rows)
            turned[one], turned[other] = rows[other], rows[one]
            self.equal(self.room(rows), self.room(turned), False)

    def test_logs_apart(self):
        turned = [self.ROWS[0], *self.ROWS[5:9]], [*self.ROWS[7:9], *self.ROWS[5:7], self.ROWS[0]]
        late = [[(*row[:-1], 9) for row in rows] for rows in turned]
        self.equal(self.room(late[0]), self.room(late[1]), True)
        self.assertNotEqual(self.room(late[0]).log(), self.room(late[1]).log())
        # An id wanted back and one wanted again stand alike, until an answer comes.
        rows = [("chosen", "fill", 2), ("did", (0, 1), 3, 5)]
        self.equal(self.room([*rows, ("again", (0, 1), 4)]), self.room([*rows, ("back", (0, 1), 4)]), True)

    def test_the_last_letter_and_the_wait_of_what_has_ended(self):
        def ended(time, wait, word="done"):
            rows = [("chosen", "fill", 2), ("did", (0, 1), time, wait), ("heard", answer((0, 1), word), 9)]
            return self.room(rows)

        self.equal(ended(3, 5), ended(3, 5), True)
        self.equal(ended(3, 5), ended(4, 5), False)
        self.equal(ended(3, 5), ended(3, 6), False)
        self.equal(ended(3, 5), ended(4, 4), False)
        self.equal(ended(3, 5), ended(3, 5, word="refused"), False)

    def test_the_time_of_the_last_deed(self):
        self.equal(Room(sample(), 0), self.room([("hand", "lv", 5, 4, 30, 0), ("unhand", "lv", 4)]), False)
        rows = [("hand", "lv", 5, 0, 30, 0), ("unhand", "lv", 0)]
        self.equal(Room(sample(), 0), self.room(rows), True)

    def test_numbers_and_works(self):
        self.equal(Room(sample(), 0), Room(sample(), 1), False)
        for works in other_works():
            for number in (0, 1):
                self.assertFalse(Room(works, number) == Room(sample(), number))
        rows = [("over", 0)]
        self.equal(self.room(rows), self.room([("heard", ("terms", "dam", 2, 0), 0)]), False)
        for thing in others():
            if not isinstance(thing, Room):
                self.assertFalse(Room(sample(), 0) == thing)
        self.assertIs(type(repr(self.room(self.ROWS))), str)

    def test_marks_are_plain(self):
        for number in (0, 1):
            for rows in ([], self.ROWS if number == 0 else []):
                for atom in atoms(self.room(rows, number).marks()):
                    self.assertIn(type(atom), (int, str, type(None)))

    def test_a_copy_goes_its_own_way(self):
        room = self.room(self.ROWS)
        copy = room.copied()
        self.equal(room, copy, True)
        self.is_just(copy.log(), self.ROWS)
        ahead = look(room)
        copy.hears(("signs", "dam", 1, 9, ()), 9)
        copy.choose("fill", 9)
        copy.do((4, 1), 9)
        copy.again((0, 1), 9)
        copy.hand("lv", 1, 0, 99, 9)
        copy.unhand("a", 9)
        copy.shelve("far", 0, 99, 9)
        copy.take_over(9)
        self.assertEqual(look(room), ahead)
        self.equal(room, copy, False)


if __name__ == "__main__":
    unittest.main()
