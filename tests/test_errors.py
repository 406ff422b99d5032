"""Point 5: the errors."""

import unittest

from paperbest import errors
from tests.tools import odd_values

SHAPES = {
    "InvalidTask": ("word", "at"), "InvalidText": ("line", "at"), "InvalidPoint": ("at",), "InvalidBox": ("at",),
    "InvalidPaper": ("at",), "InvalidNumber": ("word",), "Refused": ("word",)}


class ErrorsTest(unittest.TestCase):
    def test_bases(self):
        self.assertTrue(issubclass(errors.TaskError, ValueError))
        for name in SHAPES:
            self.assertEqual(getattr(errors, name).__bases__, (errors.TaskError,), name)

    def test_attributes_by_position_and_by_name(self):
        for name, parts in SHAPES.items():
            made = getattr(errors, name)(*[part + "!" for part in parts])
            named = getattr(errors, name)(**{part: part + "!" for part in parts})
            for part in parts:
                self.assertEqual(getattr(made, part), part + "!")
                self.assertEqual(getattr(named, part), part + "!")

    def test_any_values(self):
        for value in odd_values():
            for name, parts in SHAPES.items():
                made = getattr(errors, name)(*[value for _ in parts])
                for part in parts:
                    self.assertIs(getattr(made, part), value)

    def test_raised_and_caught(self):
        for name, parts in SHAPES.items():
            with self.assertRaises(errors.TaskError):
                raise getattr(errors, name)(*parts)
            with self.assertRaises(TypeError):
                getattr(errors, name)(*parts, 1)


if __name__ == "__main__":
    unittest.main()
