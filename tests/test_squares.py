"""Stage 3: squares and places, point [8], and [2], [3] and [4] as far as they touch it."""

import unittest
from math import gcd

import slow
from cases import Case
from slow import BIG, BIGGER, BIGGEST
from turnedline.lines import part_at, rest_at
from turnedline.squares import sum_placed, sum_rest_placed, sum_rest_squares, sum_squares
from turnedline.sums import sum_parts, sum_rests

COUNTS = (BIG, BIGGER, BIGGEST - 1, BIGGEST)
FUNCTIONS = (sum_squares, sum_placed, sum_rest_squares, sum_rest_placed)


def sum_of_powers(n):
    """The count, the sum and the sum of the squares of the numbers from 0 on, n of them."""
    return n, n * (n - 1) // 2, n * (n - 1) * (2 * n - 1) // 6


def sums_by_rounds(line, n):
    """The four sums for an m that can be counted through.

    Of the places x = c + m * t with one c, the rest is that at c, and the part at x is the part
    at c and a * t more.
    """
    a, b, m = line
    totals = [0, 0, 0, 0]
    for c in range(min(m, n)):
        part, rest = divmod(a * c + b, m)
        many, once, squared = sum_of_powers((n - c + m - 1) // m)
        totals[0] += part * part * many + 2 * part * a * once + a * a * squared
        totals[1] += c * part * many + (c * a + m * part) * once + m * a * squared
        totals[2] += rest * rest * many
        totals[3] += rest * (c * many + m * once)
    return tuple(totals)


def stretches_of_alike_parts(line, n):
    """Rows (part, first place, place behind) for a line so level that few parts come."""
    a, b, m = line
    rows = []
    start = 0
    while start < n:
        part = (a * start + b) // m
        if a > 0:
            end = -((b - (part + 1) * m) // a)
        elif a < 0:
            end = (b - part * m) // -a + 1
        else:
            end = n
        rows.append((part, start, min(end, n)))
        start = end
    return rows


def sums_by_parts(line, n):
    """The four sums for a line so level that few parts come."""
    a, b, m = line
    totals = [0, 0, 0, 0]
    for part, start, end in stretches_of_alike_parts(line, n):
        many, once, squared = (e - s for s, e in zip(sum_of_powers(start), sum_of_powers(end)))
        # The rest on this stretch is a * x + down.
        down = b - part * m
        totals[0] += part * part * many
        totals[1] += part * once
        totals[2] += a * a * squared + 2 * a * down * once + down * down * many
        totals[3] += a * squared + down * once
    return tuple(totals)


def rest_squares_of_one_turn(line):
    """The sum of the rests' squares at m places: each rest that is met is met alike often."""
    a, b, m = line
    step = gcd(a, m)
    least = b % step
    many, once, squared = sum_of_powers(m // step)
    return step * (least * least * many + 2 * least * step * once + step * step * squared)


class SquaresCase(Case):

    def assert_sums(self, line, n, expected):
        for function, told in zip(FUNCTIONS, expected, strict=True):
            self.assert_tells(function(line, n), told, (function.__name__, line, n))


class AsWrittenOut(SquaresCase):

    def test_some(self):
        for line, n, told in (
            # The parts are 0, 1, 1, 2 and the rests 2, 0, 3, 1.
            ((3, 2, 5), 4, (6, 9, 14, 9)),
            ((3, 2, 5), 0, (0, 0, 0, 0)),
            ((3, 2, 5), 1, (0, 0, 4, 0)),
            # The parts are 0, -2, -3 and the rests 0, 3, 1.
            ((-7, 0, 5), 3, (13, -8, 10, 5)),
            # The parts are -1, -1, 0, 0, 0 and the rests 1, 2, 0, 1, 2.
            ((1, -2, 3), 5, (2, -1, 10, 13)),
            ((0, 0, 1), 7, (0, 0, 0, 0)),
            ((1, 0, 1), 5, (30, 30, 0, 0)),
            ((0, 9, 5), 4, (4, 6, 64, 24)),
            ((0, -1, 5), 4, (4, -6, 64, 24)),
            ((5, 5, 5), 3, (14, 8, 0, 0)),
            ((4, 4, 5), 4, (14, 14, 30, 10)),
        ):
            self.assert_sums(line, n, told)


class PlaceByPlace(SquaresCase):

    def test_small_lines(self):
        for line in slow.small_lines():
            parts = [slow.part(line, place) for place in range(14)]
            rests = [slow.rest(line, place) for place in range(14)]
            for n in range(15):
                self.assert_sums(line, n, slow.four_sums(parts[:n], rests[:n]))

    def test_a_and_b_about_m(self):
        for m in (1, 2, 3, 7, 12):
            edges = (-2 * m, -m - 1, -m, 1 - m, -1, 0, 1, m - 1, m, m + 1, 2 * m, 3 * m - 1)
            for a in edges:
                for b in edges:
                    line = (a, b, m)
                    parts = [slow.part(line, place) for place in range(30)]
                    rests = [slow.rest(line, place) for place in range(30)]
                    for n in (0, 1, 2, m, m + 1, 30):
                        self.assert_sums(line, n, slow.four_sums(parts[:n], rests[:n]))

    def test_lines_of_some_figures(self):
        for line in ((355, 113, 1000), (-618, 1000, 999), (997, -12345, 641), (512, 0, 768)):
            for n in (50, 700, 1500):
                parts = [slow.part(line, place) for place in range(n)]
                rests = [slow.rest(line, place) for place in range(n)]
                self.assert_sums(line, n, slow.four_sums(parts, rests))

    def test_great_lines(self):
        for line in slow.great_lines():
            parts = [part_at(line, place) for place in range(8)]
            rests = [rest_at(line, place) for place in range(8)]
            for n in (0, 1, 2, 3, 8):
                self.assert_sums(line, n, slow.four_sums(parts[:n], rests[:n]))

    def test_great_lines_and_some_more_places(self):
        for line in (
            (BIGGER // 3, BIG, BIGGER), (-BIGGER // 7, -BIGGEST, BIGGER), (BIGGEST, -BIG, BIG),
            (1 - BIGGEST, BIGGEST - 1, BIGGEST), (BIGGEST // 2, BIGGEST // 2, BIGGEST),
        ):
            parts = [part_at(line, place) for place in range(300)]
            rests = [rest_at(line, place) for place in range(300)]
            for n in (30, 299, 300):
                self.assert_sums(line, n, slow.four_sums(parts[:n], rests[:n]))


class SixtyFigures(SquaresCase):

    def test_small_m_by_rounds(self):
        for m in (1, 2, 3, 7, 12, 101):
            for a in (-BIGGEST, -m - 1, -1, 0, 1, m - 1, m, m + 1, BIG):
                for b in (-BIGGER, -1, 0, m - 1, m, BIGGEST):
                    for n in COUNTS:
                        self.assert_sums((a, b, m), n, sums_by_rounds((a, b, m), n))

    def test_the_rounds_are_right_themselves(self):
        for line in slow.small_lines(3, 4):
            for n in range(10):
                parts = [slow.part(line, place) for place in range(n)]
                rests = [slow.rest(line, place) for place in range(n)]
                told = slow.four_sums(parts, rests)
                self.assertEqual(sums_by_rounds(line, n), told)
                if abs(line[0]) < line[2]:
                    self.assertEqual(sums_by_parts(line, n), told)

    def test_level_lines_by_their_parts(self):
        for m in (BIG, BIGGER, BIGGEST, BIGGEST // 50):
            for a in (-7, -2, -1, 0, 1, 2, 5, 11):
                for b in (-BIGGEST, -m, -1, 0, 1, m // 2, m - 1, m, BIGGEST):
                    for n in (0, 1, BIG, BIGGEST):
                        self.assert_sums((a, b, m), n, sums_by_parts((a, b, m), n))

    def test_level_lines_of_fewer_places(self):
        for line, n in (
            ((10 ** 30 + 7, 3, BIGGEST), 10 ** 31), ((-10 ** 30 - 7, -3, BIGGEST), 10 ** 31 + 1),
            ((10 ** 58 + 1, -BIG, BIGGER), 2000), ((-10 ** 57, BIG, BIGGER), 20001),
            ((10 ** 20, 10 ** 40 - 1, 10 ** 50), 10 ** 31),
        ):
            self.assert_sums(line, n, sums_by_parts(line, n))

    def test_one_more_place_adds_its_own(self):
        for line in slow.great_lines():
            for n in (BIG, BIGGEST - 1):
                part = part_at(line, n)
                rest = rest_at(line, n)
                for function, more in zip(
                    FUNCTIONS, (part * part, n * part, rest * rest, n * rest), strict=True
                ):
                    told = function(line, n + 1) - function(line, n)
                    self.assert_tells(told, more, (function.__name__, line, n))

    def test_two_stretches_make_one(self):
        small, great = slow.golden_pair()
        for line in (
            (BIG, -BIGGEST, BIGGER), (-BIGGER, BIG, BIGGEST), (3, 1, BIG), (BIG, 7, 5),
            (small, 0, great), (great, great - 1, small),
        ):
            a, b, m = line
            for first, second in ((BIG, BIGGER), (1, BIGGEST - 1), (BIGGEST // 3, BIG)):
                moved = (a, a * first + b, m)
                both = first + second
                told = sum_squares(line, first) + sum_squares(moved, second)
                self.assert_tells(sum_squares(line, both), told)
                told = sum_rest_squares(line, first) + sum_rest_squares(moved, second)
                self.assert_tells(sum_rest_squares(line, both), told)
                told = sum_placed(line, first) + sum_placed(moved, second)
                told += first * sum_parts(moved, second)
                self.assert_tells(sum_placed(line, both), told)
                told = sum_rest_placed(line, first) + sum_rest_placed(moved, second)
                told += first * sum_rests(moved, second)
                self.assert_tells(sum_rest_placed(line, both), told)

    def test_squares_of_the_rests_of_one_turn(self):
        small, great = slow.golden_pair()
        for a, b, m in list(slow.great_lines()) + [(small, 5, great), (great - small, 0, great)]:
            told = rest_squares_of_one_turn((a, b, m))
            self.assert_tells(sum_rest_squares((a, b, m), m), told, (a, b, m))
            self.assert_tells(sum_rest_squares((a, b, m), 3 * m), 3 * told, (a, b, m))

    def test_somewhat_beyond_sixty_figures(self):
        n = 10 ** 70
        for line in ((1, 0, 2), (-n - 3, 5, 7), (n, -n, 3)):
            self.assert_sums(line, n, sums_by_rounds(line, n))


class NoPlacesAndOne(SquaresCase):

    def test_no_places_sum_to_nothing(self):
        for line in slow.great_lines():
            self.assert_sums(line, 0, (0, 0, 0, 0))

    def test_one_place(self):
        for line in slow.great_lines():
            part = part_at(line, 0)
            rest = rest_at(line, 0)
            self.assert_sums(line, 1, (part * part, 0, rest * rest, 0))


class Refusals(SquaresCase):

    def test_no_line(self):
        for function in FUNCTIONS:
            for n in (0, 1, 5, BIGGEST):
                self.assert_no_line(function, n)


class Asking(SquaresCase):

    def test_asked_again_is_answered_the_same(self):
        for function in FUNCTIONS:
            for line in ((7, -3, 5), (BIG, -BIGGEST, BIGGER)):
                for n in (0, 99, BIGGEST):
                    self.assert_asked_again(function, ((1, 1, 0), n), line, n)


if __name__ == "__main__":
    unittest.main()
