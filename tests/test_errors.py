"""errors.py: which errors there are, where they stand, and what they keep."""

import inspect
import unittest

from jarvisits import errors
from jarvisits.errors import (
    BadAddress, BadJar, BadName, BadPage, BadQuestion, BadRow, BadSite, BadText, BadWish, JarError, TooMany,
)
from things import deep, integers, odd_things

GIVEN = (BadAddress, BadRow, BadName, BadPage)
PLACED = (BadSite, BadWish, BadJar)


class Classes(unittest.TestCase):
    def test_the_module_has_these_classes_and_no_others(self):
        wanted = {
            "JarError", "BadSite", "BadText", "BadAddress", "BadRow", "BadWish", "BadName", "BadPage",
            "BadJar", "TooMany", "BadQuestion",
        }
        self.assertEqual({name for name, _ in inspect.getmembers(errors, inspect.isclass)}, wanted)

    def test_jar_error_stands_straight_under_value_error(self):
        self.assertEqual(JarError.__bases__, (ValueError,))
        self.assertEqual(str(JarError("why")), "why")

    def test_each_error_stands_straight_under_jar_error(self):
        for error in GIVEN + PLACED + (BadText, TooMany, BadQuestion):
            self.assertEqual(error.__bases__, (JarError,), error)
            self.assertEqual(error.__module__, "jarvisits.errors")

    def test_each_can_be_raised_and_caught_as_value_error(self):
        for error in GIVEN + PLACED + (TooMany, BadQuestion):
            with self.assertRaises(ValueError):
                raise error("x")
        with self.assertRaises(ValueError):
            raise BadText(0, 0)


class Attributes(unittest.TestCase):
    def test_given_is_the_very_thing(self):
        for error in GIVEN:
            for at, thing in enumerate(odd_things() + integers() + [None, True, False, ()]):
                with self.subTest(error=error, at=at):
                    self.assertTrue(error(thing).given is thing)

    def test_a_list_that_is_given_is_not_copied_or_changed(self):
        rows = [1, [2]]
        self.assertTrue(BadRow(rows).given is rows)
        self.assertEqual(rows, [1, [2]])

    def test_place(self):
        for error in PLACED:
            for place in ((), (0,), (4, 3), None, 0, 7):
                self.assertEqual(error(place).place, place)

    def test_line_and_place(self):
        error = BadText(3, 17)
        self.assertEqual((error.line, error.place), (3, 17))
        error = BadText(-1, -1)
        self.assertEqual((error.line, error.place), (-1, -1))

    def test_most(self):
        self.assertEqual(TooMany(6).most, 6)

    def test_each_has_its_attributes_and_no_others(self):
        for error in GIVEN:
            self.assertEqual(list(vars(error(0))), ["given"])
        for error in PLACED:
            self.assertEqual(list(vars(error(0))), ["place"])
        self.assertEqual(list(vars(BadText(0, 1))), ["line", "place"])
        self.assertEqual(list(vars(TooMany(6))), ["most"])

    def test_a_question_keeps_its_text(self):
        self.assertEqual(str(BadQuestion("no such WRITE")), "no such WRITE")

    def test_errors_can_be_shown_whatever_was_given(self):
        for error in GIVEN:
            for thing in (deep(tuple), deep(list), 10 ** 5000):
                self.assertIsInstance(str(error(thing)), str)
                self.assertNotEqual(str(error(thing)), "")
