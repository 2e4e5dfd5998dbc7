"""Tests that the interface's names stand where it lists them, with their arguments, stars and defaults."""

import inspect
import unittest

from panelwatch import letters, words, works
from panelwatch.works import Works

FUNCTIONS = {
    words: [
        ("is_whole", "thing low high"), ("is_name", "thing"), ("is_time", "thing"), ("is_mark", "thing"),
        ("is_room", "thing"), ("is_term", "thing"), ("is_id", "thing"), ("room_of_term", "term"),
        ("next_term", "room term"), ("number_in", "thing * low=0 high=9999"), ("words_in", "thing"),
    ],
    works: [
        ("Works", "points * rules=() causes=() commands=() relations=()"), ("is_beyond", "word limit worth"),
        ("lock_holds", "lock worths"), ("relation_holds", "relation worths"),
    ],
    letters: [
        ("is_sign", "works thing"), ("is_signs", "works thing"), ("is_order", "works thing"),
        ("is_letter", "works thing"), ("rows_of", "works letter point"), ("in_order", "works letters"),
    ],
}
METHODS = [
    ("points", ""), ("rules", ""), ("causes", ""), ("commands", ""), ("relations", ""), ("places", ""),
    ("point", "name"), ("rule", "name"), ("command", "name"), ("points_at", "place"), ("is_worth", "point thing"),
    ("has_point", "thing"), ("has_place", "thing"), ("has_rule", "thing"), ("has_command", "thing"),
    ("causes_of", "rule"),
]


def written(call):
    """The arguments of a call as the interface writes them, with blanks between."""
    parts = []
    for parameter in inspect.signature(call).parameters.values():
        if parameter.kind is parameter.KEYWORD_ONLY and "*" not in parts:
            parts.append("*")
        plain = parameter.default is parameter.empty
        parts.append(parameter.name if plain else f"{parameter.name}={parameter.default!r}")
    return " ".join(parts)


class InterfaceTest(unittest.TestCase):
    def test_functions_and_classes(self):
        for module, rows in FUNCTIONS.items():
            for name, arguments in rows:
                with self.subTest(name=name):
                    self.assertEqual(getattr(module, name).__module__, module.__name__)
                    self.assertEqual(written(getattr(module, name)), arguments)

    def test_methods_stand_in_the_class_itself(self):
        one = Works([("p", "q", "level")])
        for name, arguments in METHODS:
            with self.subTest(name=name):
                self.assertIn(name, vars(Works))
                self.assertEqual(written(getattr(one, name)), arguments)
        self.assertIn("__eq__", vars(Works))


if __name__ == "__main__":
    unittest.main()
