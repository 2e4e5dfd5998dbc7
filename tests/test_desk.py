"""Tests of panelwatch.desk: points 134 and 135."""

import random
import unittest

from panelwatch.deedtexts import deed_of, deed_text
from panelwatch.desk import Desk
from panelwatch.errors import (
    Absent, Barred, Down, NoCommand, NoHistory, NoLine, NoList, NoNumber, NoPlace, NoPoint, NoRule, NotNow, NotOnRoad,
    NotThere, NoTime, NoWorks, NoWorth, PanelError, Stands, TooMany,
)
from panelwatch.falsesigns import picture_at, suspects
from panelwatch.letters import is_letter
from panelwatch.plant import Plant
from panelwatch.texts import letter_of
from panelwatch.trends import coarse
from panelwatch.works import Works
from tests import deeds
from tests.large import in_time, large_works
from tests.models import look_at_plant
from tests.things import PanelCase, others, sample, wrong

NO_WORKS = wrong(lambda thing: isinstance(thing, Works))
REFUSALS = (PanelError, Absent, Barred)
# Lines that can be said one behind the other, and what each tells.
LINES = [
    ("wait 3", []), ("change lv 46 good", []), ("send north", []), ("come 1", ["yes"]), ("double 2", ["3"]),
    ("come 2", ["yes"]),
    ("come 3", ["no"]), ("choose 0 fill", ["0 1"]), ("choose 0 fill", ["0 2"]), ("do 0 0 1", []), ("again 0 0 1", []),
    ("back 0 0 2", []), ("come 4", ["yes"]), ("lose 5", []), ("over 1", []), ("hand 0 a 9 3 30", []),
    ("unhand 0 a", []),
    ("shelve 1 high 3 9", []), ("unshelve 1 high", []), ("fall 0", []), ("come 6", ["no"]), ("rise 0", []),
]


def desk_that_said(*lines, works=None):
    desk = Desk(works or sample())
    for line in lines:
        desk.say(line)
    return desk


def look(desk):
    plant = desk.plant()
    return look_at_plant(plant, (0, 9)), plant.marks(), desk.log()


def look_and_undo(desk):
    """All that the desk tells, and each plant to which it can go back."""
    told, plants = look(desk), []
    # It is said again afterwards, so that the desk stays as it was.
    lines = []
    while True:
        deeds_done = desk.plant().deeds()
        try:
            desk.say("undo")
        except NotNow:
            break
        lines.append(deed_text(deeds_done[-1]))
        plants.append(desk.plant().marks())
    for line in reversed(lines):
        desk.say(line)
    return told, plants


class DeskModel:
    """A desk by the words of points 134 and 135: of its plant the lines that aren't taken back are all that counts."""

    def __init__(self, works):
        self.works = works
        self.lines = []
        self.log = []

    def plant(self):
        return deeds.plant_that_did(self.works, [deed_of(line) for line in self.lines])

    def take(self, line):
        if line == "undo":
            if not self.lines:
                raise NotNow(line)
            self.lines.pop()
            return []
        word = line.split(" ")[0]
        plant = self.plant()
        if word in ("now", "road", "show", "ids", "alarms", "trend", "doubt"):
            return getattr(self, word)(plant, *map(int_or_name, line.split(" ")[1:]))
        told = deeds.do(plant, deed_of(line))
        self.lines.append(line)
        if word == "choose":
            return [f"{told[0]} {told[1]}"]
        if word == "come":
            return [{True: "yes", False: "no"}[told]]
        return [str(told)] if word == "double" else []

    def say(self, line):
        told = self.take(line)
        self.log.append(line.split(" ")[0])
        return told

    def say_all(self, lines):
        kept = list(self.lines)
        self.log.append("begin")
        told = []
        for line in lines:
            try:
                told.append(self.say(line))
            except REFUSALS:
                self.lines = kept
                self.log.extend(["back", "end"])
                raise
        self.log.append("end")
        return told

    def now(self, plant):
        return [f"{plant.now()}"]

    def road(self, plant):
        told = []
        for number, start, goal, letter in plant.under_way():
            words = [str(word) for word in flat((number, start, goal, letter))]
            told.append(" ".join(words))
        return told

    def show(self, plant, room, point, at):
        return [" ".join("-" if thing is None else str(thing) for thing in plant.room(room).show(point, at))]

    def ids(self, plant, room, at):
        return [f"{ident[0]} {ident[1]} {command} {state}" for ident, command, state in plant.room(room).ids(at)]

    def alarms(self, plant, room, at, most):
        heads, more = plant.room(room).alarms(at, most=most)
        told = []
        for name, raised, under in heads:
            told.append(f"{name} {raised}" + (": " if under else "") + ", ".join(f"{one} {at}" for one, at in under))
        return told + ([f"more {more}"] if more > 0 else [])

    def trend(self, plant, room, point, size, since, till):
        history = plant.room(room).hearing().history(point)
        return [" ".join(map(str, row)) for row in coarse(history, size, since, till)]

    def doubt(self, plant, room, at):
        hearing = plant.room(room).hearing()
        picture = picture_at(self.works, {row[0]: hearing.history(row[0]) for row in self.works.points()}, at)
        told = []
        for points, worths in suspects(self.works, picture):
            told.append(", ".join(f"{point} {worth}" for point, worth in zip(points, worths)) or "none")
        return told


def int_or_name(word):
    return int(word) if word.isdigit() else word


def flat(thing):
    return [one for part in thing for one in flat(part)] if isinstance(thing, tuple) else [thing]


class SayTest(PanelCase):
    def test_deeds(self):
        desk, plant = Desk(works=sample()), Plant(sample())
        for at, (line, told) in enumerate(LINES):
            self.is_just(desk.say(line), told)
            deeds.do(plant, deed_of(line))
            self.assertTrue(desk.plant() == plant)
            self.is_just(desk.plant().deeds(), plant.deeds())
            self.is_just(desk.log(), [row[0].split(" ")[0] for row in LINES[:at + 1]])
        self.is_just(desk.log()[14], "over")

    def test_by_its_name(self):
        desk = Desk(sample())
        self.is_just(desk.say(line="wait 3"), [])
        self.is_just(desk.say_all(lines=["wait 3", "now"]), [[], ["6"]])

    def test_deeds_refused(self):
        desk = desk_that_said(*[line for line, _ in LINES], "fall 1")
        rows = [
            (NoNumber, 0, "wait 0"), (NoNumber, 9999, "wait 9999"), (NoPoint, "zz", "change zz 99 good"),
            (NoWorth, 64, "change lv 64 good"), (NoPlace, "lv", "send lv"), (NotOnRoad, 1, "come 1"),
            (NotOnRoad, 0, "lose 0"),
            (NotOnRoad, 999, "double 999"), (NoCommand, "high", "choose 0 high"), (Down, 1, "choose 1 high"),
            (NotNow, (0, 2), "do 0 0 2"), (NotThere, (4, 1), "again 0 4 1"), (NotThere, (1, 1), "back 0 1 1"),
            (NoTime, 3, "hand 0 lv 9 3 3"), (NotThere, "lv", "unhand 0 lv"), (NoRule, "lv", "shelve 0 lv 9 3"),
            (NoTime, 3, "shelve 0 high 9 3"), (NotThere, "high", "unshelve 0 high"), (Stands, 0, "rise 0"),
            (Down, 1, "fall 1"),
            (Down, 1, "over 1"),
        ]
        for error, value, line in rows:
            ahead = look(desk)
            with self.assertRaises(error) as caught:
                desk.say(line)
            self.is_just(caught.exception.found, value)
            self.assertEqual(look(desk), ahead)

    def test_no_lines(self):
        desk = desk_that_said("wait 3", "change lv 46 good")
        near = [
            "undo ", " undo", "undo 1", "undone", "now 1", "now ", "Now", "road 0", "road  ", "show 0 lv",
            "show 0 lv 10000",
            "show 2 lv 3", "show 0 lv 03", "show 0 3 lv", "show 0 lv 3 4", "show 0 LV 3", "show  0 lv 3",
            "show 0 abcdefghi 3",
            "show lv 0 3", "ids 0", "ids 0 -1", "ids 2 0", "ids 0 0 0", "alarms 0 5", "alarms 0 5 9 9", "alarms 2 5 9",
            "alarms 0 5 x", "alarms 0 05 9", "trend 0 lv 5 0", "trend 0 lv 5 0 9 9", "trend 2 lv 5 0 9",
            "trend 0 5 lv 0 9",
            "trend 0 lv 5 0 10000", "doubt 0", "doubt 2 5", "doubt 0 lv", "doubt 0 5 5", "take_over 0", "over",
            "over 2",
            "change lv 40", "wait 05", "wait 10000", "wait 5\n", "wait 5\nnow", "do 0 0", "point a x level", "begin",
            "end",
            "back", "more 3", "none", "-", "hand 0 lv 9 3", "send 1", "choose 0 1",
        ]
        self.look_at_arguments(desk.say, ("line", "now", [*others(), *near], NoLine))
        for line in near:
            self.stays(lambda: look(desk), NoLine, line, desk.say, line)
        self.is_just(desk.plant().deeds(), [("wait", 3), ("change", "lv", 46, "good")])

    def test_no_works(self):
        self.look_at_arguments(lambda **named: Desk(**named).log(), ("works", sample(), NO_WORKS, NoWorks))

    def test_told_anew(self):
        desk = desk_that_said(*[line for line, _ in LINES])
        for line in ("now", "road", "ids 0 5", "show 0 lv 5", "trend 0 lv 5 0 9", "doubt 0 5", "alarms 0 9 9"):
            said = desk.say(line)
            said.append("more")
            self.is_just(desk.say(line), said[:-1])
        self.told_anew(desk.log)
        desk.plant().wait(5)
        self.is_just(desk.say("now"), ["3"])


class UndoTest(PanelCase):
    def test_of_none_and_of_the_first(self):
        desk = Desk(sample())
        self.stays(lambda: look(desk), NotNow, "undo", desk.say, "undo")
        desk.say("wait 3")
        self.is_just(desk.say("undo"), [])
        self.assertTrue(desk.plant() == Plant(sample()))
        self.is_just(desk.plant().deeds(), [])
        self.stays(lambda: look(desk), NotNow, "undo", desk.say, "undo")
        self.is_just(desk.log(), ["wait", "undo"])
        desk.say("wait 4")
        self.is_just(desk.say("now"), ["4"])

    def test_one_by_one(self):
        desk, plants = Desk(sample()), [Plant(sample())]
        for line, _ in LINES:
            desk.say(line)
            plants.append(desk.plant())
        for plant in plants[-2::-1]:
            self.is_just(desk.say("undo"), [])
            self.assertTrue(desk.plant() == plant)
            self.is_just(look_at_plant(desk.plant(), (0, 9)), look_at_plant(plant, (0, 9)))
        self.refused(NotNow, "undo", desk.say, "undo")

    def test_the_numbers_on_the_road_too(self):
        desk = desk_that_said("send dam", "double 1", "undo")
        self.is_just(desk.say("double 2"), ["3"])

    def test_behind_a_refused_one_and_behind_asks(self):
        desk = desk_that_said("wait 3", "wait 4")
        for line in ("wait 9999", "come 1", "nothing", ""):
            with self.assertRaises(REFUSALS):
                desk.say(line)
        desk.say("now")
        desk.say("road")
        self.is_just(desk.say("undo"), [])
        self.is_just(desk.say("now"), ["3"])
        desk.say("undo")
        self.is_just(desk.say("now"), ["0"])
        self.is_just(desk.log(), ["wait", "wait", "now", "road", "undo", "now", "undo", "now"])

    def test_deeds_said_behind_an_undo(self):
        desk = desk_that_said("wait 1", "wait 2", "undo", "wait 4", "undo", "undo", "wait 8")
        self.is_just(desk.say("now"), ["8"])
        self.is_just(desk.plant().deeds(), [("wait", 8)])


class AskTest(PanelCase):
    def test_nothing_to_tell(self):
        desk = Desk(sample())
        rows = {
            "now": ["0"], "road": [], "show 0 lv 0": ["- - - open"], "show 1 w 9999": ["- - - open"], "ids 0 0": [],
            "ids 1 9999": [], "alarms 0 0 1": [], "alarms 1 9999 99": [], "trend 0 lv 1 0 999": [],
            "trend 1 w 400 9 3": [],
            "doubt 0 0": ["none"], "doubt 1 9999": ["none"],
        }
        for line, told in rows.items():
            self.is_just(desk.say(line), told)
        self.is_just(desk.log(), [line.split(" ")[0] for line in rows])
        self.assertTrue(desk.plant() == Plant(sample()))

    def test_road(self):
        desk = desk_that_said("wait 3", "change lv 46 odd", "change v 1 good", "send north", "over 1", "choose 0 fill",
                              "do 0 0 1", "come 6", "back 0 0 1", "come 4")
        self.is_just(desk.say("road"), [
            "1 north 0 signs north 1 3 3 lv 46 odd 3 v 1 good", "2 north 1 signs north 1 3 3 lv 46 odd 3 v 1 good",
            "3 1 dam term 1", "5 1 north term 1", "7 east 0 answer east 0 1 done 0 3",
            "8 east 1 answer east 0 1 done 0 3",
            "9 0 east back 0 1", "10 east 0 terms east 1 3", "11 east 1 terms east 1 3",
        ])
        desk.say("choose 0 open")
        desk.say("do 0 0 2")
        self.is_just(desk.say("road")[-1], "12 0 north do 0 2 open")
        for text in desk.say("road"):
            self.assertTrue(is_letter(sample(), letter_of(sample(), text.split(" ", 3)[3])))

    def test_show(self):
        desk = desk_that_said("wait 3", "change lv 46 odd", "wait 3", "send north", "come 1", "hand 0 v 1 4 9",
                              "hand 1 lv 5 0 99")
        rows = {
            "show 0 lv 2": ["- - - sure"], "show 0 lv 3": ["46 3 odd sure"], "show 0 lv 6": ["46 3 odd open"],
            "show 0 v 4": ["1 4 good hand"], "show 0 v 9": ["- - - open"], "show 1 lv 9": ["5 0 good hand"],
            "show 1 v 4": ["- - - open"],
        }
        for line, told in rows.items():
            self.is_just(desk.say(line), told)
        self.refused(NoPoint, "zz", desk.say, "show 0 zz 3")
        self.refused(NoPoint, "north", desk.say, "show 1 north 3")

    def test_ids(self):
        desk = desk_that_said("over 0", *["choose 0 fill"] * 5, "do 0 2 1", "do 0 2 2", "back 0 2 3", "do 0 2 5",
                              "come 4", "come 5",
                              "wait 1", "come 7", "again 0 2 5")
        self.is_just(desk.say("ids 0 10"), [
            "2 1 fill done", "2 2 fill unknown", "2 3 fill dropped", "2 4 fill chosen", "2 5 fill asked",
        ])
        self.is_just(desk.say("ids 0 9")[1], "2 2 fill asked")
        self.is_just(desk.say("ids 0 11")[4], "2 5 fill unknown")

    def test_alarms(self):
        works = Works(
            [("p", "x", "level"), ("q", "y", "level")],
            rules=[("a", "p", "above", 10, 0, 0, 2), ("b", "p", "above", 20, 0, 1, 1), ("c", "p", "above", 5, 0, 2, 3),
                   ("d", "q", "below", 9, 0, 0, 1)],
            causes=[("a", "b", 9), ("a", "c", 9)],
        )
        desk = desk_that_said("wait 5", "change p 30 good", "change q 3 good", "send x", "send y", "come 1", "come 3",
                              works=works)
        self.is_just(desk.say("alarms 0 4 9"), [])
        self.is_just(desk.say("alarms 0 5 9"), ["d 5", "a 5"])
        self.is_just(desk.say("alarms 0 6 9"), ["d 5", "a 5: b 6"])
        self.is_just(desk.say("alarms 0 7 99"), ["d 5", "a 5: b 6, c 7"])
        self.is_just(desk.say("alarms 0 7 1"), ["d 5", "more 1"])
        desk.say("shelve 0 a 0 50")
        self.is_just(desk.say("alarms 0 7 9"), ["d 5", "b 6", "c 7"])
        self.is_just(desk.say("alarms 0 7 1"), ["d 5", "more 2"])
        self.is_just(desk.say("alarms 0 7 2"), ["d 5", "b 6", "more 1"])
        self.is_just(desk.say("alarms 0 7 3"), ["d 5", "b 6", "c 7"])
        self.is_just(desk.say("alarms 1 7 9"), [])
        for most in (0, 100, 9999):
            self.stays(lambda: look(desk), NoNumber, most, desk.say, f"alarms 0 7 {most}")

    def test_trend(self):
        desk = desk_that_said("wait 5", "change lv 30 good", "wait 3", "change lv 10 odd", "wait 9", "send north",
                              "come 1",
                              "hand 0 lv 60 0 99")
        self.is_just(desk.say("trend 0 lv 5 0 14"), ["5 5 110 10 30", "10 5 50 10 10"])
        self.is_just(desk.say("trend 0 lv 400 4 5"), ["0 1 30 30 30"])
        self.is_just(desk.say("trend 0 v 5 0 14"), [])
        self.is_just(desk.say("trend 0 lv 5 9 8"), [])
        self.is_just(desk.say("trend 1 lv 5 0 14"), [])
        rows = [
            (NoPoint, "zz", "trend 0 zz 0 0 9999"), (NoNumber, 0, "trend 0 lv 0 0 9999"),
            (NoNumber, 401, "trend 0 lv 401 0 9999"),
            (TooMany, 1001, "trend 0 lv 5 0 1000"), (TooMany, 10000, "trend 0 lv 5 0 9999"),
        ]
        for error, value, line in rows:
            self.stays(lambda: look(desk), error, value, desk.say, line)

    def test_doubt(self):
        # The sample's relations: a is b; a is b, c and lv together; lv is 0 where v is; c is lv.
        desk = desk_that_said("wait 2", "change lv 5 good", "change v 0 odd", "wait 1", "change v 1 good",
                              "change v 0 good", "wait 2",
                              "send north", "come 1")
        self.is_just(desk.say("doubt 0 1"), ["none"])
        self.is_just(desk.say("doubt 0 2"), ["none"])
        self.is_just(desk.say("doubt 0 3"), ["lv 0", "v 1"])
        self.is_just(desk.say("doubt 1 3"), ["none"])
        desk.say("hand 0 v 1 0 99")
        self.is_just(desk.say("doubt 0 3"), ["lv 0", "v 1"])
        works = Works([(name, "x", "level") for name in "abcdef"],
                      relations=[("same", "a", "b"), ("same", "c", "d"), ("same", "e", "f")])
        lines = ["wait 1", "change a 5 good", "change b 6 good", "change c 7 good", "change d 8 good",
                 "change f 9 good"]
        desk = desk_that_said(*lines, "send x", "come 1", works=works)
        self.is_just(desk.say("doubt 0 1"), ["a 6, c 8", "a 6, d 7", "b 5, c 8", "b 5, d 7"])
        desk = desk_that_said(*lines, "change e 1 good", "send x", "come 1", works=works)
        self.is_just(desk.say("doubt 0 1"), [])

    def test_doubt_of_more_than_a_hundred_signs(self):
        desk = Desk(sample())
        for at in range(1, 102):
            desk.say_all(["wait 1", f"change lv {at % 64} good"])
            if at % 10 == 0 or at == 101:
                desk.say_all(["send north", f"come {2 * ((at + 9) // 10) - 1}"])
            if at == 100:
                self.is_just(desk.say("doubt 0 100"), ["none"])
        self.assertEqual(len(desk.plant().room(0).hearing().history("lv")), 101)
        with self.assertRaises(NoHistory):
            desk.say("doubt 0 100")

    def test_a_room_that_fell_is_told_as_it_was_then(self):
        desk = desk_that_said("wait 3", "change lv 46 good", "send north", "come 1", "choose 0 fill", "fall 0")
        rows = {"show 0 lv 3": ["46 3 good open"], "ids 0 3": ["0 1 fill chosen"], "trend 0 lv 1 3 3": ["3 1 46 46 46"],
                "alarms 0 6 9": ["high 6"], "doubt 0 3": ["none"]}
        for line, told in rows.items():
            self.is_just(desk.say(line), told)
        self.refused(Down, 0, desk.say, "choose 0 zz")


class SayAllTest(PanelCase):
    def test_together(self):
        desk = Desk(sample())
        self.is_just(desk.say_all([line for line, _ in LINES]), [told for _, told in LINES])
        self.is_just(desk.log(), ["begin", *[line.split(" ")[0] for line, _ in LINES], "end"])
        self.assertTrue(desk.plant() == desk_that_said(*[line for line, _ in LINES]).plant())
        self.is_just(desk.say_all(()), [])
        self.is_just(desk.log()[-2:], ["begin", "end"])
        # Each of them is taken back by itself.
        desk.say("undo")
        self.assertTrue(desk.plant() == desk_that_said(*[line for line, _ in LINES[:-1]]).plant())

    def test_forty_and_forty_one(self):
        desk = desk_that_said("wait 3")
        lines = ["wait 1"] * 40
        self.is_just(desk.say_all(tuple(lines)), [[]] * 40)
        self.is_just(desk.say("now"), ["43"])
        for thing in (lines + ["wait 1"], tuple(lines + [None]), [None] * 41):
            self.stays(lambda: look(desk), NoList, thing, desk.say_all, thing)

    def test_no_lists(self):
        desk = desk_that_said("wait 3")
        for thing in others():
            if not (type(thing) in (list, tuple) and len(thing) <= 40):
                self.stays(lambda: look(desk), NoList, thing, desk.say_all, thing)

    def test_no_lines_in_a_list(self):
        desk = desk_that_said("wait 3")
        for thing in others():
            for lines in ([thing], ["wait 1", thing, 5], ("now", "wait 1", thing, None)):
                ahead = desk.log()
                self.refused(NoLine, thing, desk.say_all, lines)
                words = [line.split(" ")[0] for line in lines[:[id(line) for line in lines].index(id(thing))]]
                self.is_just(desk.log(), [*ahead, "begin", *words, "back", "end"])
                self.is_just(desk.plant().deeds(), [("wait", 3)])

    def test_one_refused(self):
        desk = desk_that_said("wait 3", "choose 0 fill")
        lines = ["now", "wait 4", "undo", "undo", "change lv 46 good", "send north", "come 1", "show 0 lv 3"]
        bad = [(NoNumber, 0, "wait 0"), (NotOnRoad, 9, "come 9"), (NoLine, "nothing", "nothing"),
               (NoPoint, "zz", "show 0 zz 3"),
               (NoNumber, 0, "alarms 0 3 0"), (NotThere, (0, 2), "do 0 0 2")]
        for at in range(len(lines) + 1):
            for error, value, line in bad:
                ahead, log = look_and_undo(desk), desk.log()
                self.refused(error, value, desk.say_all, [*lines[:at], line, *lines[at:], "come 99"])
                words = [line.split(" ")[0] for line in lines[:at]]
                self.is_just(desk.log(), [*log, "begin", *words, "back", "end"])
                behind = look_and_undo(desk)
                self.is_just((behind[0][:2], behind[1]), (ahead[0][:2], ahead[1]))

    def test_undo_and_asks_among_them(self):
        desk = desk_that_said("wait 3")
        told = desk.say_all(["now", "undo", "now", "wait 5", "wait 6", "undo", "now", "send dam", "road"])
        road = ["1 dam 0 signs dam 1 5", "2 dam 1 signs dam 1 5"]
        self.is_just(told, [["3"], [], ["0"], [], [], [], ["5"], [], road])
        self.is_just(desk.log(), ["wait", "begin", "now", "undo", "now", "wait", "wait", "undo", "now", "send", "road",
                                  "end"])
        # What can be undone is as ahead of them all: what was taken back among them, too.
        desk = desk_that_said("wait 3", "wait 4")
        self.refused(NotNow, "undo", desk.say_all, ["undo", "undo", "undo"])
        self.is_just(desk.log()[2:], ["begin", "undo", "undo", "back", "end"])
        self.is_just(desk.say("now"), ["7"])
        desk.say("undo")
        self.is_just(desk.say("now"), ["3"])
        desk.say("undo")
        self.refused(NotNow, "undo", desk.say, "undo")

    def test_each_is_looked_at_when_it_comes(self):
        desk = Desk(sample())
        self.is_just(desk.say_all(["choose 0 fill", "do 0 0 1", "come 1", "come 2", "ids 0 0"]), [
            ["0 1"], [], ["yes"], ["yes"], ["0 1 fill done"],
        ])
        self.refused(NotOnRoad, 99, desk.say_all, ["come 99", None])
        self.is_just(desk.log()[-3:], ["begin", "back", "end"])

    def test_what_is_handed_in_stays(self):
        lines = ["wait 3", "now"]
        desk = Desk(sample())
        desk.say_all(lines)
        self.is_just(lines, ["wait 3", "now"])
        lines.append("wait 4")
        self.is_just(desk.plant().now(), 3)

    def test_told_anew(self):
        told = Desk(sample()).say_all(["wait 3", "now"])
        told[0].append("more")
        self.is_just(told, [["more"], ["3"]])


class ByChanceTest(PanelCase):
    def some_line(self, chance, plant):
        now = plant.now()
        if chance.random() < 0.6:
            deed = deeds.draw(chance, plant)
            return deed_text(deed) if deeds.may_be_done(plant, deed) else "now"
        room, at = chance.randrange(2), max(0, now + chance.randint(-9, 9))
        point = chance.choice(plant.works().points())[0]
        return chance.choice((
            "undo", "undo", "now", "road", f"show {room} {point} {at}", f"ids {room} {at}",
            f"alarms {room} {at} {chance.randint(1, 3)}",
            f"trend {room} {point} {chance.randint(1, 9)} {max(0, at - 9)} {at}", f"doubt {room} {at}", "show 0 zz 3",
            "alarms 0 3 0",
        ))

    def told(self, say, lines):
        try:
            return "told", say(lines)
        except REFUSALS as error:
            return type(error), error.many if hasattr(error, "many") else error.found

    def test_against_a_model(self):
        chance = random.Random(134)
        for _ in range(12):
            desk, model = Desk(sample()), DeskModel(sample())
            for _ in range(60):
                line = self.some_line(chance, model.plant())
                if chance.random() < 0.2:
                    # Such deeds as can be done one behind the other, and one that may be refused.
                    lines, plant = [], model.plant()
                    for _ in range(chance.randint(0, 8)):
                        lines.append(self.some_line(chance, plant))
                        try:
                            deeds.do(plant, deed_of(lines[-1]))
                        except REFUSALS:
                            pass
                    self.is_just(self.told(desk.say_all, lines), self.told(model.say_all, lines))
                else:
                    self.is_just(self.told(desk.say, line), self.told(model.say, line))
                self.is_just(desk.log(), model.log)
                plant = model.plant()
                self.assertTrue(desk.plant() == plant)
                self.is_just((desk.plant().deeds(), desk.plant().under_way()), (plant.deeds(), plant.under_way()))


class LargestTest(PanelCase):
    def test_in_time(self):
        chance = random.Random(135)
        lines = [deed_text(deed) for deed in deeds.some_deeds(chance, large_works(), 1400)[:900]]
        self.assertGreater(len(lines), 700)
        desk = Desk(large_works())
        in_time(self, lambda: [desk.say(line) for line in lines], 5)
        asks = [f"doubt 0 {at * 5}" for at in range(40)]
        in_time(self, lambda: desk.say_all(asks), 6)
        for line in ("road", "alarms 0 200 99", "trend 0 pa 1 0 999", "ids 0 200", "show 0 pa 200"):
            in_time(self, lambda: desk.say_all([line] * 40), 4)
        in_time(self, lambda: desk.say_all(["wait 1"] * 40), 2)
        in_time(self, lambda: desk.say_all(["wait 1", "undo"] * 20), 2)
        with self.assertRaises(NoLine):
            in_time(self, lambda: desk.say_all(["wait 1"] * 39 + ["nothing"]), 2)
        in_time(self, lambda: [desk.say("undo") for _ in range(len(lines))], 2)

    def test_doubt_of_what_is_hard(self):
        desk = Desk(large_works())
        desk.say("wait 1")
        for point, worth in zip(("pa", "pb", "pc", "pd", "pe", "pf", "pg", "ph"), (1, 40, 0, 5, 63, 33, 20, 0)):
            desk.say(f"change {point} {worth} good")
        for at, place in enumerate(("x", "y", "z")):
            desk.say(f"send {place}")
            desk.say(f"come {at * 2 + 1}")
        in_time(self, lambda: desk.say_all([f"doubt 0 {at}" for at in range(1, 41)]), 8)

    def test_a_long_line(self):
        for line in ("wait " + "1" * 190, "a" * 200, " " * 200, "show 0 lv 3" + " " * 180):
            self.refused(NoLine, line, Desk(sample()).say, line)


if __name__ == "__main__":
    unittest.main()
