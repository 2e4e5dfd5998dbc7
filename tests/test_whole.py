"""Tests of points 1, 5, 6 and 8 over the whole program: names called otherwise, and things handed in by name."""

import ast
import copy
import inspect
import pathlib
import random
import re
import unittest

import panelwatch
from panelwatch import (
    alarms, alikerules, causes, deedtexts, drills, falsesigns, letters, lists, plainroom, roads, rooms, texts, trends,
    words, works,
)
from panelwatch.alarms import Watch
from panelwatch.deedtexts import deed_of, deed_text, plant_of, plant_text
from panelwatch.desk import Desk
from panelwatch.errors import Absent, Barred, PanelError
from panelwatch.hearing import Hearing
from panelwatch.places import Place
from panelwatch.plainroom import PlainRoom
from panelwatch.plant import Plant
from panelwatch.roads import Road
from panelwatch.rooms import Room
from panelwatch.trends import Trend
from panelwatch.works import Works
from tests import deeds
from tests.models import look_at_plant
from tests.things import CAUSES, COMMANDS, POINTS, RELATIONS, RULES, PanelCase, others, sample, spoil

REFUSALS = (PanelError, Absent, Barred)
SIGNS = ("signs", "north", 1, 9, ((3, "lv", 46, "good"), (7, "v", 0, "odd")))
EVENTS = {"high": [(5, 9), (20, None)], "low": [(25, 60)]}
HISTORY = [(3, 46, "good"), (9, 30, "odd")]
SHELVES = [("low", 3, 30)]
LOG = [("heard", SIGNS, 1), ("chosen", "fill", 2), ("did", (0, 1), 3, 10), ("hand", "lv", 7, 2, 30, 6),
       ("shelved", "low", 0, 99, 7)]
DEEDS = ["wait 3", "change lv 46 good", "send north", "come 1", "choose 0 fill", "do 0 0 1", "double 2"]
TEXT = "\n".join([texts.works_text(sample()), *DEEDS])
PAIRS = [(("quiet", 0), ("quiet", 0))]
LISTS = {"points": POINTS, "rules": RULES, "causes": CAUSES, "commands": COMMANDS, "relations": RELATIONS}


def hearing():
    told = Hearing(sample())
    told.hear(SIGNS)
    told.hand("a", 5, 3, 30)
    return told


def place():
    told = Place(sample(), "north")
    told.change("lv", 46, 3)
    told.send(4)
    told.hears(("do", (0, 1), "open"), 5)
    return told


def room():
    return rooms.room_of(sample(), 0, LOG)


def plant():
    return plant_of(TEXT)


def desk():
    told = Desk(sample())
    told.say_all(DEEDS)
    return told


def road():
    told = Road(sample())
    told.put(0, "north", ("term", 4))
    return told


def watch():
    told = Watch(RULES[0])
    told.hear(3, 46)
    return told


def trend():
    told = Trend(sample(), "lv", 5, 0, 20)
    told.hear(SIGNS)
    return told


def asks_of_functions():
    """Of each function of the interface that tells of what it is handed, right things by their names."""
    w = sample()
    window = {"since": 0, "till": 20}
    shelved = {"works": w, "shelves": SHELVES, "name": "low", "at": 5}
    event = {"works": w, "events": EVENTS, "name": "low", "raised": 25}
    listed = {"works": w, "events": EVENTS, "at": 25, "shelves": SHELVES, "most": 5}
    histories = {"lv": HISTORY, "v": [(5, 0, "good")]}
    picture = {"works": w, "picture": {"lv": 3, "v": 0}, "most": 2}
    two = {"works": w, "one": "high", "other": "high"}
    kept = {"rule": RULES[0], "history": HISTORY, "till": 20}
    return [
        (words.is_whole, {"thing": 5, "low": 1, "high": 9}), (words.room_of_term, {"term": 5}),
        (words.next_term, {"room": 1, "term": 5}),
        (words.number_in, {"thing": "12", "low": 3, "high": 40}), (words.words_in, {"thing": "a b c"}),
        *[(call, {"thing": thing}) for call, thing in (
            (words.is_name, "a"), (words.is_time, 5), (words.is_mark, "odd"), (words.is_room, 1), (words.is_term, 5),
            (words.is_id, (4, 1)),
        )],
        (works.is_beyond, {"word": "above", "limit": 3, "worth": 4}),
        (works.lock_holds, {"lock": ("lv", "above", 3), "worths": {"lv": 4}}),
        (works.relation_holds, {"relation": RELATIONS[0], "worths": {"a": 4, "b": 4}}), (works.Works, LISTS),
        *[(call, {"works": w, "thing": SIGNS}) for call in (letters.is_sign, letters.is_signs, letters.is_order,
                                                            letters.is_letter)],
        (letters.rows_of, {"works": w, "letter": SIGNS, "point": "lv"}),
        (letters.in_order, {"works": w, "letters": [SIGNS, SIGNS]}),
        (alarms.events, kept), (alarms.state_at, {"rule": RULES[0], "history": HISTORY, "at": 20}),
        (alarms.raised_by, {"hearing": hearing(), "name": "high", "till": 20}),
        (alarms.sure_events, {"hearing": hearing(), "name": "high"}),
        (alarms.shows_events, {**kept, "thing": [(6, None)]}), (causes.are_events, {"works": w, "thing": EVENTS}),
        *[(call, event) for call in (causes.cause_of, causes.chain_of, causes.first_cause)],
        (causes.shows_chain, {**event, "thing": [("low", 25), ("high", 20)]}),
        (lists.standing, {"works": w, "events": EVENTS, "at": 25}),
        (lists.is_shelved, shelved), (lists.back_at, shelved), (lists.alarm_list, listed),
        (lists.shows_list, {**listed, "thing": ([], 0)}),
        (trends.fine, {"history": HISTORY, **window, "odd": False}),
        (trends.coarse_of, {"rows": [(3, 4), (5, 6)], "size": 5}),
        (trends.coarse, {"history": HISTORY, "size": 5, **window, "odd": False}),
        (falsesigns.broken, {"works": w, "picture": {"lv": 3, "v": 0}}), (falsesigns.suspects, picture),
        (falsesigns.shows_suspects, {**picture, "thing": [(("lv",), (0,)), (("v",), (1,))]}),
        (falsesigns.named, picture),
        (falsesigns.picture_at, {"works": w, "histories": histories, "time": 7}),
        (falsesigns.spans, {"works": w, "histories": histories, **window}),
        (rooms.room_of, {"works": w, "number": 0, "rows": LOG}),
        (drills.drill, {"works": w, "number": 0, "log": LOG, "many": 3}),
        (alikerules.parting, {"works": w, "one": "high", "other": "low", "length": 9}),
        (alikerules.step_of, {"works": w, "rule": "high", "stand": ("waits", 1), "worth": 63}),
        (alikerules.alike_pairs, two),
        (alikerules.shows_alike, {**two, "thing": PAIRS}), (texts.works_text, {"works": w}),
        (texts.works_of, {"text": texts.works_text(w)}),
        (texts.letter_text, {"works": w, "letter": SIGNS}), (texts.letter_of, {"works": w, "text": "do 0 1 fill"}),
        (deedtexts.deed_text, {"deed": ("do", 0, (0, 1))}), (deedtexts.deed_of, {"text": "do 0 0 1"}),
        (deedtexts.plant_text, {"plant": plant()}), (deedtexts.plant_of, {"text": TEXT}),
        (plainroom.PlainRoom, {"works": w, "letters": [SIGNS], "hands": [("a", 5, 3, 30)]}), (roads.Road, {"works": w}),
        (Trend, {"works": w, "point": "lv", "size": 5, **window, "odd": False}), (Place, {"works": w, "name": "dam"}),
        (Watch, {"rule": RULES[0]}), (Hearing, {"works": w}), (Room, {"works": w, "number": 1}), (Plant, {"works": w}),
        (Desk, {"works": w}),
    ]


def calls_of_methods():
    """Of each class a maker of its objects, and of its methods right things by their names."""
    shown, at = {"point": "lv", "at": 5}, {"at": 5}
    known = {"works": {}, "known": {"place": "north"}, "history": {"point": "lv"}, "show": shown, "picture": at}
    hand = {"point": "lv", "worth": 5, "since": 3, "end": 30}
    none = lambda *names: {name: {} for name in names}
    return [
        (sample, {
            **none("points", "rules", "causes", "commands", "relations", "places"), "point": {"name": "lv"},
            "rule": {"name": "low"},
            "command": {"name": "fill"}, "points_at": {"place": "dam"}, "is_worth": {"point": "lv", "thing": 5},
            "causes_of": {"rule": "low"},
            **{name: {"thing": "lv"} for name in ("has_point", "has_place", "has_rule", "has_command")},
        }),
        (road, {
            "put": {"start": "dam", "goal": 1, "letter": SIGNS},
            **{name: {"number": 1} for name in ("take", "lose", "double", "letter")},
            **none("numbers", "under_way", "copied"), "bound_for": {"goal": "north"},
        }),
        (hearing, {
            **known, "hear": {"letter": ("signs", "dam", 1, 9, ())}, "lacking": {"place": "north"}, "hand": hand,
            "unhand": {"point": "a", "at": 9}, **none("hands", "letters", "marks", "copied"),
        }),
        (lambda: PlainRoom(sample(), [SIGNS]), known),
        (watch, {"hear": {"time": 8, "worth": 3}, "go_on": {"time": 9}, **none("events", "state", "copied")}),
        (trend, {"hear": {"letter": ("signs", "north", 2, 9, ())}, **none("rows", "fine", "heard", "copied")}),
        (place, {
            "change": {"point": "v", "worth": 1, "time": 9, "mark": "odd"}, "send": {"time": 9},
            "letter": {"number": 1},
            "hears": {"letter": ("do", (0, 2), "open"), "time": 9}, "worth": {"point": "lv"}, "mark": {"point": "lv"},
            **none("name", "time", "term", "waiting", "done", "met", "copied", "marks"),
        }),
        (room, {
            "hears": {"letter": ("terms", "dam", 4, 9), "time": 9}, "take_over": {"time": 9},
            "choose": {"command": "fill", "time": 9},
            "again": {"ident": (0, 1), "time": 9}, "back": {"ident": (0, 1), "time": 9}, "hand": {**hand, "time": 9},
            "unhand": {"point": "lv", "time": 9}, "shelve": {"rule": "high", "since": 3, "end": 9, "time": 9},
            "unshelve": {"rule": "low", "time": 9}, "ids": at, "state": {"ident": (0, 1), "at": 9}, "show": shown,
            "picture": at,
            "alarms": {"at": 9, "most": 5}, **none("works", "number", "term", "knows", "hearing", "shelves", "log",
                                                   "copied", "marks"),
        }),
        (lambda: rooms.room_of(sample(), 0, LOG[:2]), {"do": {"ident": (0, 1), "time": 9, "wait": 5}}),
        (plant, {
            "place": {"name": "dam"}, "room": {"number": 1}, "stands": {"room": 1}, "wait": {"many": 5},
            "change": {"point": "lv", "worth": 5, "mark": "odd"}, "send": {"place": "dam"}, "lose": {"number": 2},
            "come": {"number": 2},
            "double": {"number": 2}, "choose": {"room": 0, "command": "fill"}, "again": {"room": 0, "ident": (0, 1)},
            "back": {"room": 0, "ident": (0, 1)}, "take_over": {"room": 1}, "hand": {"room": 1, **hand},
            "shelve": {"room": 1, "rule": "high", "since": 3, "end": 9}, "fall": {"room": 1},
            **none("works", "now", "under_way", "deeds", "copied", "marks"),
        }),
        (lambda: plant_of(TEXT + "\nchoose 0 fill\nhand 0 lv 5 0 9\nshelve 0 low 0 9\nfall 1"), {
            "do": {"room": 0, "ident": (0, 2)}, "unhand": {"room": 0, "point": "lv"},
            "unshelve": {"room": 0, "rule": "low"},
            "rise": {"room": 1},
        }),
        (desk, {"say": {"line": "road"}, "say_all": {"lines": ["now", "wait 3", "undo"]}, **none("log", "plant")}),
    ]


def told_of(thing):
    """What can be looked at in a thing that was told: an object by all that it tells of itself."""
    if isinstance(thing, Desk):
        return thing.plant().marks(), thing.log()
    if isinstance(thing, PlainRoom):
        return [thing.history(row[0]) for row in POINTS], thing.picture(9)
    return thing


def is_starred(parameter):
    return parameter.kind is parameter.KEYWORD_ONLY


class ByNameTest(PanelCase):
    def test_functions_in_any_order(self):
        chance = random.Random(5)
        for call, named in asks_of_functions():
            with self.subTest(call=call.__name__):
                bound = inspect.signature(call).parameters
                self.assertLessEqual(set(named), set(bound))
                starred = {name: named[name] for name in named if is_starred(bound[name])}
                ordered = [named[name] for name in bound if name in named and name not in starred]
                self.assertEqual(len(ordered) + len(starred), len(named))
                told = told_of(call(*ordered, **starred))
                for _ in range(4):
                    turned = dict(chance.sample(list(named.items()), len(named)))
                    self.assertEqual(told_of(call(**turned)), told)

    def test_methods_in_any_order(self):
        for made, methods in calls_of_methods():
            for name, named in methods.items():
                with self.subTest(method=name):
                    bound = inspect.signature(getattr(made(), name)).parameters
                    ordered = [named[one] for one in bound if not is_starred(bound[one])]
                    starred = {one: named[one] for one in bound if is_starred(bound[one])}
                    told = told_of(getattr(made(), name)(*ordered, **starred))
                    turned = {one: named[one] for one in reversed(list(named))}
                    self.assertEqual(told_of(getattr(made(), name)(**turned)), told)

    def test_all_of_the_interface_is_there(self):
        """Each public name of the package's files that the interface lists stands in one of the two tables."""
        named = {call.__name__ for call, _ in asks_of_functions()}
        for module in (words, works, letters, roads, plainroom, alarms, causes, lists, trends, falsesigns, rooms,
                       drills, alikerules, texts, deedtexts):
            for name, thing in vars(module).items():
                public = callable(thing) and getattr(thing, "__module__", "") == module.__name__
                if public and not name.startswith("_") and not name.startswith("check_"):
                    served = ("is_one_of", "is_tuple", "is_list", "is_list_of", "is_rising", "is_just", "rows_in",
                              "is_at_rest", "chain_in",
                              "works_of_rows", "deed_in", "do_deed")
                    self.assertTrue(name in named or name in served, name)


class AskedTwiceTest(PanelCase):
    def test_functions(self):
        for call, named in asks_of_functions():
            with self.subTest(call=call.__name__):
                kept = copy.deepcopy(named)
                told = call(**named)
                again = copy.deepcopy(told)
                self.assertEqual(told_of(call(**named)), told_of(again))
                spoil(told)
                self.assertEqual(told_of(call(**named)), told_of(again))
                for name in named:
                    self.assertEqual(told_of(named[name]), told_of(kept[name]))

    def test_methods_that_ask(self):
        deed = ("put take lose double hear hand unhand go_on change send hears take_over choose do again back shelve "
                "unshelve wait come fall rise say say_all").split()
        for made, methods in calls_of_methods():
            for name, named in methods.items():
                if name in deed:
                    continue
                with self.subTest(method=name):
                    one = made()
                    told = getattr(one, name)(**named)
                    again = copy.deepcopy(told)
                    self.assertEqual(told_of(getattr(one, name)(**named)), told_of(again))
                    spoil(told)
                    self.assertEqual(told_of(getattr(one, name)(**named)), told_of(again))

    def test_lists_handed_in_and_changed_afterwards(self):
        rows = {name: list(LISTS[name]) for name in LISTS}
        told = Works(**rows)
        spoil(rows)
        self.assertEqual(told, sample())
        for call, named in asks_of_functions():
            kept = copy.deepcopy(named)
            told = call(**kept)
            ahead = copy.deepcopy(told_of(told))
            spoil([kept[name] for name in kept])
            self.assertEqual(told_of(told), ahead)


class AnyThingTest(PanelCase):
    """Any thing may stand in the place of each argument: it is refused as the document tells, if it is refused."""

    PLAIN = (works.is_beyond, works.lock_holds, works.relation_holds)

    def things(self):
        chance = random.Random(7)
        alone = others()
        mixed = [chance.choice((list, tuple))(chance.choices(alone, k=chance.randint(0, 4))) for _ in range(200)]
        return [*alone, *mixed]

    def told_or_refused(self, call, named):
        """Whether a thing was told: any error but the three families' goes on, and fails the test."""
        try:
            call(**named)
        except REFUSALS:
            return False
        return True

    def test_functions(self):
        chance, things = random.Random(8), self.things()
        for call, named in asks_of_functions():
            if call in self.PLAIN:
                continue
            with self.subTest(call=call.__name__):
                for name in named:
                    for thing in things:
                        self.told_or_refused(call, {**named, name: thing})
                for _ in range(100):
                    picked = {name: chance.choice((named[name], chance.choice(things))) for name in named}
                    self.told_or_refused(call, picked)

    def test_methods(self):
        things = self.things()
        for made, methods in calls_of_methods():
            for method, named in methods.items():
                with self.subTest(method=method):
                    one, kept = made(), made()
                    for name in named:
                        for thing in things:
                            if self.told_or_refused(getattr(one, method), {**named, name: thing}):
                                one = made()
                            elif not isinstance(one, (Desk, PlainRoom)):
                                self.assertEqual(one, kept)


class OtherNamesTest(PanelCase):
    """With all names called otherwise, in the same order, all is told likewise, by names that are words here, too."""

    NAMES = sorted([*[row[0] for row in POINTS], "north", "east", "dam", *[row[0] for row in RULES],
                    *[row[0] for row in COMMANDS]])
    # Names that are no words of the program: what is told by them can be called otherwise, name by name.
    PLAIN = [f"q{one}x" for one in "abcdefghijklmnopq"]
    OTHERS = [
        "above answer back below cause command done end good hand level odd over point sum switch undo".split(), NAMES,
        [*["a" * many for many in range(1, 9)], "b", *["z" * many for many in range(1, 9)]],
    ]

    def other(self, names, thing):
        """A thing with all names in it called otherwise."""
        if isinstance(thing, str):
            return re.sub("[a-z]+", lambda found: names.get(found[0], found[0]), thing)
        if isinstance(thing, (list, tuple)):
            return type(thing)([self.other(names, part) for part in thing])
        if isinstance(thing, dict):
            return {self.other(names, key): self.other(names, part) for key, part in thing.items()}
        return thing

    def plain(self, thing):
        return self.other(dict(zip(self.NAMES, self.PLAIN)), thing)

    def works_and_maps(self):
        """Works of plain names, and of each lot of others the names' dict and the works."""
        lists_of = {name: self.plain(LISTS[name]) for name in LISTS}
        rows = []
        for lot in self.OTHERS:
            names = dict(zip(self.PLAIN, lot))
            rows.append((names, Works(**{name: self.other(names, lists_of[name]) for name in LISTS})))
        return Works(**lists_of), rows

    def test_names_are_in_the_same_order(self):
        for lot in (self.NAMES, self.PLAIN, *self.OTHERS):
            self.assertEqual((len(lot), len(set(lot)), sorted(lot)), (17, 17, list(lot)))

    def test_whole_histories(self):
        chance = random.Random(88)
        plain_works, rows = self.works_and_maps()
        lines = ["road", "show 0 lv 9", "ids 1 9", "trend 0 lv 5 0 99", *[f"alarms 0 {at} 9" for at in range(0, 99, 7)],
                 *[f"doubt 1 {at}" for at in range(0, 99, 33)]]
        lines = [self.plain(line) for line in lines]
        for names, other_works in rows:
            for _ in range(8):
                one, other = Desk(plain_works), Desk(other_works)
                for deed in deeds.some_deeds(chance, plain_works, 100):
                    line = deed_text(deed)
                    self.is_just(other.say(self.other(names, line)), self.other(names, one.say(line)))
                plants = one.plant(), other.plant()
                told = [look_at_plant(plant, (0, 9, plant.now())) for plant in plants]
                self.is_just(told[1], self.other(names, told[0]))
                self.is_just(plant_text(plants[1]), self.other(names, plant_text(plants[0])))
                self.is_just(plants[1].deeds(), self.other(names, plants[0].deeds()))
                told = one.say_all(lines)
                self.is_just(other.say_all([self.other(names, line) for line in lines]), self.other(names, told))

    def test_functions(self):
        objects = (Road, Place, Hearing, Room, Plant, Desk, Trend, PlainRoom, rooms.room_of, drills.drill)
        plain_works, rows = self.works_and_maps()
        for names, other_works in rows:
            for call, named in asks_of_functions():
                if "works" not in named or call in objects:
                    continue
                plain = {name: self.plain(thing) for name, thing in named.items() if name != "works"}
                with self.subTest(call=call.__name__):
                    told = call(works=plain_works, **plain)
                    self.is_just(call(works=other_works, **self.other(names, plain)), self.other(names, told))


class NothingElseTest(unittest.TestCase):
    def test_what_the_package_imports(self):
        """Nothing hangs on a clock, on chance, on files or on a network."""
        folder = pathlib.Path(panelwatch.__file__).parent
        files = sorted(folder.glob("*.py"))
        self.assertGreater(len(files), 20)
        for file in files:
            tree = ast.parse(file.read_text())
            for row in ast.walk(tree):
                self.assertNotIsInstance(row, ast.Import, file.name)
                if isinstance(row, ast.ImportFrom):
                    self.assertTrue(row.module == "itertools" or row.module.startswith("panelwatch."),
                                    (file.name, row.module))
                if isinstance(row, ast.Name):
                    self.assertNotIn(row.id, ("open", "input", "print", "eval", "exec", "id", "hash"), file.name)

    def test_the_deeds_that_are_said_are_those_of_the_plant(self):
        plant = Plant(sample())
        for row in DEEDS:
            deeds.do(plant, deed_of(row))
        self.assertEqual(plant, desk().plant())


if __name__ == "__main__":
    unittest.main()
