"""Stage 2: sums, point [7], and [2] and [3] as far as they touch it."""

import unittest
from math import gcd

import slow
from cases import Case
from slow import BIG, BIGGER, BIGGEST
from turnedline.errors import NoLine, NoStretch
from turnedline.lines import part_at, rest_at
from turnedline.sums import sum_between, sum_parts, sum_rests

COUNTS = (BIG, BIGGER, BIGGEST - 1, BIGGEST)
NO_MS = (0, -1, -2, -BIG, -BIGGEST)


def places_sum(low, high):
    """The sum of the places from low on, ahead of high."""
    return (high - low) * (low + high - 1) // 2


def parts_by_classes(line, low, high):
    """The sum of the parts from low on, ahead of high, for an m that can be counted through.

    Of the places x = c + m * t with one c, the part at x is the part at c and a * t more.
    """
    a, b, m = line
    total = 0
    for c in range(m):
        first = -((c - low) // m)
        behind = -((c - high) // m)
        total += (behind - first) * ((a * c + b) // m) + a * places_sum(first, behind)
    return total


def rests_of_whole_turns(line, turns):
    """The sum of the rests at turns times m places: each rest that is met is met alike often."""
    a, b, m = line
    step = gcd(a, m)
    kinds = m // step
    one_turn = step * (kinds * (b % step) + step * places_sum(0, kinds))
    return turns * one_turn


class AsWrittenOut(Case):

    def test_parts_and_rests(self):
        for line, n, parts, rests in (
            ((3, 2, 5), 4, 4, 6),
            ((3, 2, 5), 0, 0, 0),
            ((3, 2, 5), 1, 0, 2),
            ((7, 3, 5), 3, 5, 5),
            ((-7, 0, 5), 3, -5, 4),
            ((0, -1, 5), 4, -4, 16),
            ((0, 9, 5), 4, 4, 16),
            ((1, 0, 1), 100, 4950, 0),
            ((2, -3, 1), 4, 0, 0),
            ((1, 0, 10), 100, 450, 450),
            ((-1, 0, 10), 11, -10, 45),
        ):
            with self.subTest(line=line, n=n):
                self.assert_tells(sum_parts(line, n), parts)
                self.assert_tells(sum_rests(line, n), rests)

    def test_between(self):
        for line, low, high, told in (
            ((3, 2, 5), 0, 4, 4),
            ((3, 2, 5), 1, 3, 2),
            ((3, 2, 5), -2, 0, -2),
            ((3, 2, 5), -2, 2, -1),
            ((3, 2, 5), -5, -3, -5),
            ((-7, 0, 5), -3, 0, 7),
            ((3, 2, 5), 7, 8, 4),
            ((3, 2, 5), 7, 7, 0),
        ):
            with self.subTest(line=line, low=low, high=high):
                self.assert_tells(sum_between(line, low, high), told)


class PlaceByPlace(Case):

    def test_small_lines(self):
        for line in slow.small_lines():
            parts = rests = 0
            for n in range(14):
                self.assert_tells(sum_parts(line, n), parts, (line, n))
                self.assert_tells(sum_rests(line, n), rests, (line, n))
                parts += slow.part(line, n)
                rests += slow.rest(line, n)

    def test_small_lines_between(self):
        for line in slow.small_lines(4, 5):
            for low in range(-5, 5):
                for high in range(low, 6):
                    told = slow.sum_of_parts(line, range(low, high))
                    self.assert_tells(sum_between(line, low, high), told, (line, low, high))

    def test_lines_of_some_figures(self):
        for line in ((355, 113, 1000), (-618, 1000, 999), (997, -12345, 641), (512, 0, 768)):
            for n in (50, 700, 1500):
                self.assert_tells(sum_parts(line, n), slow.sum_of_parts(line, range(n)))
                self.assert_tells(sum_rests(line, n), slow.sum_of_rests(line, range(n)))
            told = slow.sum_of_parts(line, range(-300, 400))
            self.assert_tells(sum_between(line, -300, 400), told)

    def test_great_lines(self):
        for line in slow.great_lines():
            parts = rests = 0
            for n in range(8):
                self.assert_tells(sum_parts(line, n), parts, (line, n))
                self.assert_tells(sum_rests(line, n), rests, (line, n))
                parts += part_at(line, n)
                rests += rest_at(line, n)

    def test_great_lines_between(self):
        for line in slow.great_lines():
            for low, high in ((-9, -4), (-3, 3), (2, 6), (-BIG, 3 - BIG), (BIGGEST - 3, BIGGEST)):
                told = sum(part_at(line, place) for place in range(low, high))
                self.assert_tells(sum_between(line, low, high), told, (line, low, high))


class NoPlacesAtAll(Case):

    def test_they_sum_to_nothing(self):
        for line in slow.great_lines():
            self.assert_tells(sum_parts(line, 0), 0)
            self.assert_tells(sum_rests(line, 0), 0)
            for place in (0, 1, -1, BIGGEST, -BIGGEST):
                self.assert_tells(sum_between(line, place, place), 0)


class SixtyFigures(Case):

    def test_small_m_by_classes(self):
        for m in (1, 2, 3, 7, 12, 101):
            for a in (-BIGGEST, -m - 1, -1, 0, 1, m - 1, m, m + 1, BIG):
                for b in (-BIGGER, -1, 0, m - 1, m, BIGGEST):
                    line = (a, b, m)
                    for n in COUNTS:
                        parts = parts_by_classes(line, 0, n)
                        self.assert_tells(sum_parts(line, n), parts, (line, n))
                        rests = a * places_sum(0, n) + b * n - m * parts
                        self.assert_tells(sum_rests(line, n), rests, (line, n))

    def test_small_m_by_classes_between(self):
        for line in ((5, -3, 7), (-BIG, BIGGEST, 12), (100, 100, 101), (0, -1, 2), (-4, 9, 1)):
            for low, high in (
                (-BIGGEST, BIGGEST), (-BIGGEST, -BIG), (BIG, BIGGEST), (-BIGGER, 0), (0, BIGGER),
                (-1, BIG), (-BIG, 1), (BIGGEST - 1, BIGGEST),
            ):
                told = parts_by_classes(line, low, high)
                self.assert_tells(sum_between(line, low, high), told, (line, low, high))

    def test_parts_that_are_all_alike(self):
        for m in (1, 9, BIG):
            for r in (-BIG, -1, 0, 1, BIG):
                for n in COUNTS:
                    self.assert_tells(sum_parts((0, r * m + m - 1, m), n), r * n)
                    self.assert_tells(sum_rests((0, r * m + m - 1, m), n), (m - 1) * n)
                    told = r * n + 3 * places_sum(0, n)
                    self.assert_tells(sum_parts((3 * m, r * m, m), n), told)
                    self.assert_tells(sum_rests((3 * m, r * m, m), n), 0)

    def test_whole_turns(self):
        for m in (1, 2, 6, 10 ** 20, 6 ** 70, BIG, BIGGER, BIGGEST):
            for a in (-BIGGEST, -1, 0, 1, 6, 15 * 10 ** 18, m - 1, m + 1, BIG):
                for b in (-BIG, -1, 0, m - 1, m, BIGGER):
                    for turns in (1, 2, 10 ** 60 // m):
                        line = (a, b, m)
                        n = turns * m
                        rests = rests_of_whole_turns(line, turns)
                        self.assert_tells(sum_rests(line, n), rests, (line, n))
                        heights = a * places_sum(0, n) + b * n
                        self.assertEqual(heights % m, rests % m)
                        self.assert_tells(sum_parts(line, n), (heights - rests) // m, (line, n))

    def test_one_more_place_adds_its_part_and_rest(self):
        for line in slow.great_lines():
            for n in (BIG, BIGGEST - 1):
                more = sum_parts(line, n + 1) - sum_parts(line, n)
                self.assert_tells(more, part_at(line, n), (line, n))
                more = sum_rests(line, n + 1) - sum_rests(line, n)
                self.assert_tells(more, rest_at(line, n), (line, n))

    def test_two_stretches_make_one(self):
        ends = (-BIGGEST, -BIG, -1, 0, 1, BIG, BIGGER, BIGGEST)
        for line in ((BIG, -BIGGEST, BIGGER), (-BIGGER, BIG, BIGGEST), (3, 1, BIG), (BIG, 7, 5)):
            for at, low in enumerate(ends):
                for middle in ends[at:]:
                    for high in ends[ends.index(middle):]:
                        first = sum_between(line, low, middle)
                        second = sum_between(line, middle, high)
                        self.assert_tells(sum_between(line, low, high), first + second)

    def test_from_place_0_on_it_is_the_sum_of_the_parts(self):
        for line in slow.great_lines():
            for n in (0, 1, BIG, BIGGEST):
                self.assert_tells(sum_between(line, 0, n), sum_parts(line, n), (line, n))

    def test_a_stretch_below_0_is_that_of_the_line_the_other_way(self):
        for a, b, m in slow.great_lines():
            told = sum_between((-a, b, m), 1, BIG + 1)
            self.assert_tells(sum_between((a, b, m), -BIG, 0), told, (a, b, m))

    def test_rests_of_a_stretch_of_consecutive_places(self):
        line = (1, 0, BIG)
        self.assert_tells(sum_rests(line, BIG - 5), places_sum(0, BIG - 5))
        self.assert_tells(sum_parts(line, BIG - 5), 0)
        self.assert_tells(sum_parts(line, BIG + 5), 5)
        self.assert_tells(sum_rests(line, BIG + 5), places_sum(0, BIG) + 10)

    def test_many_turnings(self):
        small, great = slow.golden_pair()
        for line in ((small, 0, great), (great, small, great), (great - small, great - 1, great)):
            rests = rests_of_whole_turns(line, 1)
            self.assert_tells(sum_rests(line, great), rests)
            half = great // 2
            split = sum_between(line, 0, half) + sum_between(line, half, great)
            self.assert_tells(sum_parts(line, great), split)

    def test_somewhat_beyond_sixty_figures(self):
        n = 10 ** 70
        self.assert_tells(sum_parts((1, 0, 2), n), (n // 2) * (n // 2 - 1))
        self.assert_tells(sum_rests((1, 0, 2), n), n // 2)
        self.assert_tells(sum_between((1, 0, 1), -n, n), -n)


class Refusals(Case):

    def test_no_line(self):
        for m in NO_MS:
            for a, b in ((0, 0), (1, 2), (-1, -2), (BIG, -BIG), (m, m)):
                line = (a, b, m)
                for n in (0, 1, 5, BIGGEST):
                    self.assert_refused(NoLine, sum_parts, line, n)
                    self.assert_refused(NoLine, sum_rests, line, n)
                    self.assert_refused(NoLine, sum_between, line, 0, n)
                    self.assert_refused(NoLine, sum_between, line, -n, -n)

    def test_no_stretch(self):
        for line in ((3, 2, 5), (-3, -2, 1), (0, 0, 1), (BIG, BIGGEST, BIGGER)):
            for low, high in (
                (1, 0), (0, -1), (-1, -2), (5, 3), (5, -5), (BIG, BIG - 1), (BIGGEST, -BIGGEST),
                (0, -BIGGEST), (BIGGEST, 0),
            ):
                self.assert_refused(NoStretch, sum_between, line, low, high)

    def test_no_line_comes_ahead_of_no_stretch(self):
        for m in NO_MS:
            for low, high in ((1, 0), (0, -1), (5, -5), (BIGGEST, -BIGGEST)):
                self.assert_refused(NoLine, sum_between, (3, 2, m), low, high)


class Asking(Case):

    def test_asked_again_is_answered_the_same(self):
        for line in ((7, -3, 5), (BIG, -BIGGEST, BIGGER)):
            handed = tuple(line)
            for action, more in ((sum_parts, (99,)), (sum_rests, (BIG,)), (sum_between, (-9, BIG))):
                first = action(line, *more)
                self.assert_refused(NoLine, action, (1, 1, 0), *more)
                self.assertEqual(action(line, *more), first)
                self.assertEqual(line, handed)


if __name__ == "__main__":
    unittest.main()
