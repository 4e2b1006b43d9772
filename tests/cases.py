"""What the tests of every stage ask alike."""

import unittest

from slow import BIG
from turnedline.errors import LineError, NoLine


class Case(unittest.TestCase):

    def assert_whole(self, *numbers):
        for number in numbers:
            self.assertIs(type(number), int)

    def assert_line(self, line):
        self.assertIs(type(line), tuple)
        self.assertEqual(len(line), 3)
        self.assert_whole(*line)

    def assert_tells(self, told, expected, asked=None):
        self.assert_whole(told)
        self.assertEqual(told, expected, asked)

    def assert_pair(self, told, expected, asked=None):
        self.assertIs(type(told), tuple, asked)
        self.assert_whole(*told)
        self.assertEqual(told, expected, asked)

    def assert_refused(self, kind, action, *handed):
        with self.assertRaises(LineError) as caught:
            action(*handed)
        self.assertIs(type(caught.exception), kind, handed)

    def assert_no_line(self, action, *more):
        """Whatever else is handed in, a line whose m is below 1 is refused with NoLine."""
        for m in (0, -1, -2, -7, -BIG, 1 - 10 ** 60):
            for a, b in ((0, 0), (1, 2), (-1, -2), (BIG, -BIG), (m, m), (-m, -m)):
                self.assert_refused(NoLine, action, (a, b, m), *more)

    def assert_asked_again(self, action, refused, *handed):
        """Nothing handed in is changed, and neither an answer nor a refusal changes the next answer."""
        before = repr(handed)
        first = action(*handed)
        with self.assertRaises(LineError):
            action(*refused)
        second = action(*handed)
        self.assertEqual(repr(second), repr(first))
        self.assertEqual(repr(handed), before)
