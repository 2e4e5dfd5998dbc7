"""Tests that the interface's names stand where it lists them, with their arguments, stars and defaults."""

import inspect
import unittest

from panelwatch import (
    alarms, alikerules, causes, deedtexts, desk, drills, falsesigns, hearing, letters, lists, places, plainroom, plant,
    roads, rooms, texts, trends, words, works,
)
from panelwatch.alarms import Watch
from panelwatch.desk import Desk
from panelwatch.hearing import Hearing
from panelwatch.places import Place
from panelwatch.plainroom import PlainRoom
from panelwatch.plant import Plant
from panelwatch.roads import Road
from panelwatch.rooms import Room
from panelwatch.trends import Trend
from panelwatch.works import Works
from tests.things import RULES

FUNCTIONS = {
    words: [
        ("is_whole", "thing low high"), ("is_name", "thing"), ("is_time", "thing"), ("is_mark", "thing"),
        ("is_room", "thing"), ("is_term", "thing"), ("is_id", "thing"), ("room_of_term", "term"),
        ("next_term", "room term"), ("number_in", "thing * low=0 high=9999"), ("words_in", "thing"),
    ],
    works: [
        ("Works", "points * rules=() causes=() commands=() relations=()"), ("is_beyond", "word limit worth"),
        ("lock_holds", "lock worths"), ("relation_holds", "relation worths"),
    ],
    letters: [
        ("is_sign", "works thing"), ("is_signs", "works thing"), ("is_order", "works thing"),
        ("is_letter", "works thing"), ("rows_of", "works letter point"), ("in_order", "works letters"),
    ],
    roads: [("Road", "works")],
    hearing: [("Hearing", "works")],
    plainroom: [("PlainRoom", "works letters * hands=()")],
    alarms: [
        ("Watch", "rule"), ("events", "rule history till"), ("state_at", "rule history at"),
        ("raised_by", "hearing name till"), ("sure_events", "hearing name"),
        ("shows_events", "rule history till thing"),
    ],
    causes: [
        ("are_events", "works thing"), ("cause_of", "works events name raised"),
        ("chain_of", "works events name raised"),
        ("first_cause", "works events name raised"), ("shows_chain", "works events name raised thing"),
    ],
    lists: [
        ("standing", "works events at"), ("is_shelved", "works shelves name at"), ("back_at", "works shelves name at"),
        ("alarm_list", "works events at * shelves=() most=9"),
        ("shows_list", "works events at thing * shelves=() most=9"),
    ],
    trends: [
        ("fine", "history since till * odd=True"), ("coarse_of", "rows size"),
        ("coarse", "history size since till * odd=True"), ("Trend", "works point size since till * odd=True"),
    ],
    falsesigns: [
        ("broken", "works picture"), ("suspects", "works picture * most=2"),
        ("shows_suspects", "works picture thing * most=2"), ("named", "works picture * most=2"),
        ("picture_at", "works histories time"), ("spans", "works histories since till"),
    ],
    places: [("Place", "works name")],
    rooms: [("Room", "works number"), ("room_of", "works number rows")],
    plant: [("Plant", "works")],
    drills: [("drill", "works number log many=None")],
    alikerules: [
        ("parting", "works one other * length=8"), ("step_of", "works rule stand worth"),
        ("alike_pairs", "works one other"), ("shows_alike", "works one other thing"),
    ],
    texts: [
        ("works_text", "works"), ("works_of", "text"), ("letter_text", "works letter"), ("letter_of", "works text"),
    ],
    deedtexts: [("deed_text", "deed"), ("deed_of", "text"), ("plant_text", "plant"), ("plant_of", "text")],
    desk: [("Desk", "works")],
}
ONE = Works([("p", "q", "level")])
# Of each class an object, its methods with their arguments, and its double-underscore methods.
METHODS = [
    (ONE, [
        ("points", ""), ("rules", ""), ("causes", ""), ("commands", ""), ("relations", ""), ("places", ""),
        ("point", "name"), ("rule", "name"), ("command", "name"), ("points_at", "place"), ("is_worth", "point thing"),
        ("has_point", "thing"), ("has_place", "thing"), ("has_rule", "thing"), ("has_command", "thing"),
        ("causes_of", "rule"),
    ], ["__eq__"]),
    (Road(ONE), [
        ("put", "start goal letter"), ("take", "number"), ("lose", "number"), ("double", "number"),
        ("letter", "number"), ("numbers", ""), ("bound_for", "goal"), ("under_way", ""), ("copied", ""),
    ], ["__eq__", "__len__"]),
    (Hearing(ONE), [
        ("works", ""), ("hear", "letter"), ("known", "place"), ("lacking", "place"), ("history", "point"),
        ("hand", "point worth since end"), ("unhand", "point at"), ("hands", ""), ("show", "point at"),
        ("picture", "at"), ("letters", ""), ("marks", ""), ("copied", ""),
    ], ["__eq__", "__len__"]),
    (PlainRoom(ONE, []), [
        ("works", ""), ("known", "place"), ("history", "point"), ("show", "point at"), ("picture", "at"),
    ], []),
    (Watch(RULES[0]), [
        ("hear", "time worth"), ("go_on", "time"), ("events", ""), ("state", ""), ("copied", ""),
    ], ["__eq__", "__len__"]),
    (Trend(ONE, "p", 1, 0, 0), [
        ("hear", "letter"), ("rows", ""), ("fine", ""), ("heard", ""), ("copied", ""),
    ], ["__eq__"]),
    (Place(ONE, "q"), [
        ("change", "point worth time * mark='good'"), ("send", "time"), ("letter", "number"), ("hears", "letter time"),
        ("name", ""), ("time", ""), ("term", ""), ("worth", "point"), ("mark", "point"), ("waiting", ""), ("done", ""),
        ("met", ""), ("copied", ""), ("marks", ""),
    ], ["__eq__", "__len__"]),
    (Room(ONE, 0), [
        ("hears", "letter time"), ("take_over", "time"), ("choose", "command time"), ("do", "ident time * wait=10"),
        ("again", "ident time"), ("back", "ident time"), ("hand", "point worth since end time"),
        ("unhand", "point time"), ("shelve", "rule since end time"), ("unshelve", "rule time"), ("works", ""),
        ("number", ""), ("term", ""), ("knows", ""), ("hearing", ""), ("ids", "at"), ("shelves", ""), ("log", ""),
        ("state", "ident at"), ("show", "point at"), ("picture", "at"), ("alarms", "at * most=9"), ("copied", ""),
        ("marks", ""),
    ], ["__eq__"]),
    (Plant(ONE), [
        ("works", ""), ("now", ""), ("place", "name"), ("room", "number"), ("under_way", ""), ("stands", "room"),
        ("wait", "many"), ("change", "point worth * mark='good'"), ("send", "place"), ("come", "number"),
        ("lose", "number"), ("double", "number"), ("choose", "room command"), ("take_over", "room"),
        ("do", "room ident"), ("again", "room ident"), ("back", "room ident"), ("hand", "room point worth since end"),
        ("unhand", "room point"), ("shelve", "room rule since end"), ("unshelve", "room rule"), ("fall", "room"),
        ("rise", "room"), ("deeds", ""), ("copied", ""), ("marks", ""),
    ], ["__eq__"]),
    (Desk(ONE), [("say", "line"), ("say_all", "lines"), ("log", ""), ("plant", "")], []),
]


def written(call):
    """The arguments of a call as the interface writes them, with blanks between."""
    parts = []
    for parameter in inspect.signature(call).parameters.values():
        if parameter.kind is parameter.KEYWORD_ONLY and "*" not in parts:
            parts.append("*")
        plain = parameter.default is parameter.empty
        parts.append(parameter.name if plain else f"{parameter.name}={parameter.default!r}")
    return " ".join(parts)


class InterfaceTest(unittest.TestCase):
    def test_functions_and_classes(self):
        for module, rows in FUNCTIONS.items():
            for name, arguments in rows:
                with self.subTest(name=name):
                    self.assertEqual(getattr(module, name).__module__, module.__name__)
                    self.assertEqual(written(getattr(module, name)), arguments)

    def test_methods_stand_in_the_class_itself(self):
        for one, rows, signs in METHODS:
            for name, arguments in rows:
                with self.subTest(kind=type(one).__name__, name=name):
                    self.assertIn(name, vars(type(one)))
                    self.assertEqual(written(getattr(one, name)), arguments)
            for name in signs:
                self.assertIn(name, vars(type(one)))


if __name__ == "__main__":
    unittest.main()
