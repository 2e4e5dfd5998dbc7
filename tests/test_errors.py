"""Tests of panelwatch.errors: point 7's families, classes and fields."""

import unittest

from panelwatch import errors
from panelwatch.errors import Absent, Barred, NoTime, PanelError, TooMany
from tests.things import ABSENT, BARRED, FAMILIES, FIELDS, PANEL_ERRORS, others


class FamiliesTest(unittest.TestCase):
    def test_families_stand_straight_under_pythons_errors(self):
        self.assertEqual(PanelError.__bases__, (ValueError,))
        self.assertEqual(Absent.__bases__, (KeyError,))
        self.assertEqual(Barred.__bases__, (LookupError,))

    def test_families_are_made_of_one_text(self):
        for family in (PanelError, Absent, Barred):
            with self.assertRaises(family) as caught:
                raise family("some text")
            self.assertIs(type(caught.exception), family)
            self.assertIn("some text", str(caught.exception))

    def test_no_family_is_caught_as_another(self):
        self.assertFalse(issubclass(PanelError, LookupError))
        self.assertFalse(issubclass(Absent, ValueError))
        self.assertFalse(issubclass(Absent, Barred))
        self.assertFalse(issubclass(Barred, (KeyError, ValueError)))


class KindsTest(unittest.TestCase):
    def test_all_errors_of_the_interface_are_there(self):
        self.assertEqual((len(PANEL_ERRORS), len(ABSENT), len(BARRED)), (30, 6, 4))
        for name in FAMILIES:
            self.assertEqual(getattr(errors, name).__name__, name)
            self.assertEqual(getattr(errors, name).__module__, "panelwatch.errors")

    def test_each_stands_straight_under_its_family(self):
        for name, family in FAMILIES.items():
            with self.subTest(error=name):
                self.assertEqual(getattr(errors, name).__bases__, (family,))

    def test_each_is_a_class_of_its_own(self):
        self.assertEqual(len({getattr(errors, name) for name in FAMILIES}), 40)

    def test_each_has_its_field_by_place_and_by_name(self):
        for name, field in FIELDS.items():
            error = getattr(errors, name)
            for thing in others():
                with self.subTest(error=name, thing=repr(thing)[:60]):
                    self.assertIs(getattr(error(thing), field), thing)
                    self.assertIs(getattr(error(**{field: thing}), field), thing)

    def test_none_is_made_without_its_field(self):
        for name in FAMILIES:
            with self.assertRaises(TypeError):
                getattr(errors, name)()

    def test_each_is_caught_as_itself_its_family_and_pythons_error(self):
        bases = {PanelError: ValueError, Absent: KeyError, Barred: LookupError}
        for name, family in FAMILIES.items():
            error = getattr(errors, name)
            for base in (error, family, bases[family]):
                with self.assertRaises(base):
                    raise error("x")

    def test_shown_ones_are_texts(self):
        for name in FAMILIES:
            for thing in others():
                error = getattr(errors, name)(thing)
                self.assertIs(type(str(error)), str)
                self.assertIs(type(repr(error)), str)

    def test_a_thing_handed_in_is_not_changed(self):
        thing = [1, ["a"]]
        error = NoTime(thing)
        self.assertEqual(thing, [1, ["a"]])
        self.assertIs(error.found, thing)
        self.assertEqual(TooMany(1000).many, 1000)


if __name__ == "__main__":
    unittest.main()
