"""The refusals of the interface."""

import unittest

from turnedline import errors

KINDS = ("NoLine", "NoTurn", "NoText", "NoStretch", "NoPlace", "NoMap", "NoAsk")


class Errors(unittest.TestCase):

    def test_line_error_stands_under_value_error_alone(self):
        self.assertEqual(errors.LineError.__bases__, (ValueError,))
        self.assertIsInstance(errors.LineError("why"), ValueError)

    def test_each_is_made_of_a_text(self):
        for name in ("LineError",) + KINDS:
            with self.subTest(name):
                made = getattr(errors, name)("why it is refused")
                self.assertEqual(str(made), "why it is refused")

    def test_each_is_a_line_error_and_a_value_error(self):
        for name in KINDS:
            with self.subTest(name):
                made = getattr(errors, name)("why")
                self.assertIsInstance(made, errors.LineError)
                self.assertIsInstance(made, ValueError)

    def test_none_is_one_of_the_others(self):
        for name in KINDS:
            made = getattr(errors, name)("why")
            for other in KINDS:
                with self.subTest(name, other=other):
                    self.assertEqual(isinstance(made, getattr(errors, other)), name == other)

    def test_line_error_is_none_of_them(self):
        for name in KINDS:
            with self.subTest(name):
                self.assertNotIsInstance(errors.LineError("why"), getattr(errors, name))

    def test_each_has_its_own_name(self):
        for name in ("LineError",) + KINDS:
            self.assertEqual(getattr(errors, name).__name__, name)

    def test_each_is_caught_as_a_line_error(self):
        for name in KINDS:
            with self.subTest(name), self.assertRaises(errors.LineError):
                raise getattr(errors, name)("why")


if __name__ == "__main__":
    unittest.main()
