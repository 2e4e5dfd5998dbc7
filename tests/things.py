"""What the tests share: things of every kind, sample works, and a close look at refusals."""

import copy
import re
import unittest

from panelwatch import errors
from panelwatch.alarms import Watch
from panelwatch.desk import Desk
from panelwatch.hearing import Hearing
from panelwatch.places import Place
from panelwatch.plainroom import PlainRoom
from panelwatch.plant import Plant
from panelwatch.roads import Road
from panelwatch.rooms import Room
from panelwatch.trends import Trend
from panelwatch.works import Works

PANEL_ERRORS = (
    "TooMany NoRow NoTime NoWorth NoMark NoNumber NoTruth NoList NoPoints NoRules NoCauses NoCommands NoRelations "
    "NoWorks NoLetter NoRoom NoTerm NoId NoHearing NoHistory NoEvents NoPicture NoPlant NoLog NoDeed NoText NoLine "
    "Unlike Twice Ring"
).split()
ABSENT = "NoPoint NoPlace NoRule NoCommand NotThere NotOnRoad".split()
BARRED = "Locked Down Stands NotNow".split()
FAMILIES = {
    **{name: errors.PanelError for name in PANEL_ERRORS},
    **{name: errors.Absent for name in ABSENT},
    **{name: errors.Barred for name in BARRED},
}
FIELDS = {**{name: "found" for name in FAMILIES}, "TooMany": "many", "NoRow": "at"}

POINTS = [
    ("lv", "north", "level"),
    ("v", "north", "switch"),
    ("a", "east", "level"),
    ("b", "east", "level"),
    ("c", "east", "level"),
    ("s", "east", "switch"),
    ("w", "dam", "switch"),
]
RULES = [
    ("high", "lv", "above", 40, 5, 3, 1),
    ("low", "lv", "below", 3, 0, 0, 2),
    ("far", "a", "above", 10, 2, 99, 3),
    ("shut", "w", "below", 1, 0, 1, 3),
]
CAUSES = [("high", "low", 20), ("shut", "far", 0), ("high", "far", 999), ("low", "far", 7)]
COMMANDS = [
    ("open", "v", 1, (("v", "below", 1), ("lv", "above", 3))),
    ("fill", "a", 63, ()),
    ("drain", "b", 0, (("a", "below", 60), ("b", "above", 0), ("c", "above", 1), ("s", "above", 0))),
]
RELATIONS = [("same", "a", "b"), ("sum", "a", ("b", "c", "lv")), ("gate", "lv", "v"), ("sum", "c", ("lv",))]


def sample():
    """Some works with something of each kind."""
    return Works(POINTS, rules=RULES, causes=CAUSES, commands=COMMANDS, relations=RELATIONS)


def others():
    """Things of every kind, new ones each time; right ones for some argument are among them."""
    deep = []
    for _ in range(3):
        deep = [deep, (deep,), {"a": deep}]
    return [
        None, True, False, -1, 0, 1, 2, 3, 7, 63, 64, 99, 100, 998, 999, 1000, 9999, 10000, 10**29, -10**29,
        "", " ", "\n", "0", "1", "64", "A", "a", "lv", "v", "w", "zz", "north", "dam", "high", "open", "fill",
        "abcdefgh", "abcdefghi", "a1", "a b", "lv ", "lv\n", "Good", "good", "odd", "level", "switch", "above",
        "below", "done", "refused", "signs", "do", "back", "term", "terms", "answer", "True", "None", "x" * 200,
        [], [0], [1], ["a"], ["lv"], ["good"], [None], [[]], (), (0,), (1,), ("lv",), ("good",), (0, 1), [0, 1],
        (True, 1), (0, True), (0, 1, 2), ("a", "b"), ((),), {}, {"lv": 1}, {0: 1}, {None: None}, {True: False},
        sample(), Works([("lv", "north", "level")]), errors.NoTime(3), errors.PanelError("a"), deep, Road(sample()),
        Hearing(sample()), PlainRoom(sample(), []), Watch(RULES[0]), Trend(sample(), "lv", 5, 0, 9),
        Place(sample(), "north"), Room(sample(), 0), Plant(sample()), Desk(sample()),
        list(range(110)), tuple(range(110)), {at: at for at in range(110)},
    ]


def whole(low, high):
    """A test, apart from the program's own, for the whole numbers from low to high."""
    return lambda thing: type(thing) is int and low <= thing <= high


def name(thing):
    """A test, apart from the program's own, for names."""
    return type(thing) is str and re.fullmatch("[a-z]{1,8}", thing) is not None


def among(*words):
    """A test for some words, and for nothing else."""
    return lambda thing: type(thing) is str and thing in words


def wrong(fits):
    """All others that don't fit."""
    return [thing for thing in others() if not fits(thing)]


def spoil(thing):
    """Change all lists and dicts in a thing."""
    if isinstance(thing, (list, tuple)):
        for part in thing:
            spoil(part)
    if isinstance(thing, dict):
        for key in list(thing):
            spoil(thing[key])
        thing["more"] = "more"
    if isinstance(thing, list):
        thing.insert(0, "more")


def no_signs():
    """Things that are no letters with signs of the sample's works, near ones too."""
    good = ("signs", "north", 2, 7, ((3, "lv", 40, "good"),))
    return [
        *others(), list(good), good[:4], (*good, 1), ("signs", "zz", 2, 7, ()), ("signs", "lv", 2, 7, ()),
        ("signs", "north", 0, 7, ()), ("signs", "north", 41, 7, ()), ("signs", "north", True, 7, ()),
        ("signs", "north", 2, 10000, ()), ("signs", "north", 2, -1, ()), ("signs", "north", 2, True, ()),
        ("signs", "north", 2, 7, []), ("signs", "north", 2, 7, [(3, "lv", 40, "good")]),
        ("signs", "north", 2, 7, ([3, "lv", 40, "good"],)), ("signs", "north", 2, 2, good[4]),
        ("signs", "east", 2, 7, good[4]), ("signs", "north", 2, 7, ((3, "lv", 64, "good"),)),
        ("signs", "north", 2, 7, ((3, "v", 2, "good"),)), ("signs", "north", 2, 7, ((3, "v", True, "good"),)),
        ("signs", "north", 2, 7, ((3, "lv", 40, "fine"),)), ("signs", "north", 2, 7, good[4] * 13),
        ("do", (4, 1), "open"), ("back", (4, 1)), ("term", 5), ("terms", "north", 5, 30),
        ("answer", "north", (4, 1), "done", 5, 30),
    ]


class PanelCase(unittest.TestCase):
    """A test that can look closely at refusals."""

    def refused(self, error, value, call, *things, **named):
        """A call is refused with just this error, of its family, and its field is the value."""
        with self.assertRaises((errors.PanelError, errors.Absent, errors.Barred)) as caught:
            call(*things, **named)
        kind = error.__name__
        self.assertIs(type(caught.exception), error)
        self.assertIsInstance(caught.exception, FAMILIES[kind])
        told = getattr(caught.exception, FIELDS[kind])
        if isinstance(value, (int, str)) or error in (errors.Twice, errors.NotThere, errors.Locked):
            self.assertIs(type(told), type(value))
            self.assertEqual(told, value)
        else:
            self.assertIs(told, value)

    def look_at_arguments(self, call, *arguments):
        """
        Each argument is a tuple (name, a right thing, wrong things, error), in the interface's order: each wrong
        thing is refused, of two the first that is due, and all may be handed in by their names, in any order.
        """
        right = {name: thing for name, thing, _, _ in arguments}
        for at, (name, _, things, error) in enumerate(arguments):
            for thing in things:
                with self.subTest(argument=name, thing=repr(thing)[:60]):
                    self.refused(error, thing, call, **{**right, name: thing})
                    later = {other: bad[-1] for other, _, bad, _ in arguments[at + 1:] if bad}
                    self.refused(error, thing, call, **{**right, name: thing, **later})
        turned = {name: right[name] for name in reversed(right)}
        self.assertEqual(call(**turned), call(**right))

    def stays(self, look, error, value, call, *things, **named):
        """A call is refused likewise, and what a look tells is as it was."""
        ahead = look()
        self.refused(error, value, call, *things, **named)
        self.assertEqual(look(), ahead)

    def told_anew(self, ask):
        """What is told may be changed by the asker, inner lists too, and is told anew the next time."""
        told = ask()
        kept = copy.deepcopy(told)
        spoil(told)
        self.is_just(ask(), kept)

    def equal(self, one, other, value):
        """Two objects with marks are equal or not, and so are their marks."""
        self.assertIs(one == other, value)
        self.assertIs(one != other, not value)
        self.assertIs(one.marks() == other.marks(), value)
        self.assertIs(hash(one.marks()) == hash(other.marks()), value)

    def is_just(self, told, value):
        """What is told is the value, of the value's very kind, at most three deep."""
        self.assertEqual(told, value)
        self.assertEqual(repr(told), repr(value))
