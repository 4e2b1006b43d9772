"""Stage 4: rests, points [9], [10], [11], and [2], [3] and [4] as far as they touch them."""

import unittest
from math import gcd

import slow
from cases import Case
from slow import BIG, BIGGER, BIGGEST
from turnedline.errors import NoPlace, NoStretch
from turnedline.lines import rest_at
from turnedline.rests import first_within, in_order, rests_beneath

COUNTS = (BIG, BIGGER, BIGGEST - 1, BIGGEST)
# Lines of sixty figures: a and m with no common measure, with a small one, and with a great one.
GREAT_LINES = (
    (BIG, -BIGGEST, BIGGER), (-BIGGER, BIG, BIGGEST), (BIGGEST - 1, 1, BIGGEST), (1, 0, BIGGEST),
    (6 ** 70, -BIG, 10 ** 55), (15 * 10 ** 40, 7, 10 ** 59), (BIG * 7, BIGGEST, BIG), (0, BIG, BIGGEST),
    (10 ** 30, 10 ** 29, 10 ** 59), (-3, BIGGEST, BIGGEST), (BIGGEST // 2, -1, BIGGEST),
)


def round_count(c, n, m):
    """How many of the first n places are c, or more than c by a multiple of m."""
    return max(0, (n - c + m - 1) // m)


def beneath_by_rounds(line, n, bound):
    """How many of the first n places have a rest beneath a bound, for an m to be counted through."""
    a, b, m = line
    return sum(round_count(c, n, m) for c in range(m) if (a * c + b) % m < bound)


def beneath_in_one_turn(line, bound):
    """How many of m places have a rest beneath a bound: each rest that is met is met alike often."""
    a, b, m = line
    step = gcd(a, m)
    met = -((b % step - max(0, min(bound, m))) // step)
    return step * max(0, met)


def ordered_by_rounds(line, n, number):
    """The pair (rest, place) with a number, for an m that can be counted through."""
    a, b, m = line
    for rest in range(m):
        starts = [c for c in range(m) if (a * c + b) % m == rest]
        many = sum(round_count(c, n, m) for c in starts)
        if number < many:
            return rest, starts[number % len(starts)] + m * (number // len(starts))
        number -= many
    raise AssertionError("there are fewer places")


class Beneath(Case):

    def test_as_written_out(self):
        # The rests are 2, 0, 3, 1, 4, and then again.
        for n, bound, told in (
            (5, -1, 0), (5, 0, 0), (5, 1, 1), (5, 2, 2), (5, 4, 4), (5, 5, 5), (5, 6, 5),
            (3, 1, 1), (3, 2, 1), (3, 3, 2), (0, 3, 0), (1, 2, 0), (1, 3, 1), (10, 3, 6), (11, 3, 7),
        ):
            self.assert_tells(rests_beneath((3, 2, 5), n, bound), told, (n, bound))

    def test_small_lines(self):
        for line in slow.small_lines():
            rests = [slow.rest(line, place) for place in range(13)]
            for n in (0, 1, 2, 5, 6, 13):
                for bound in range(-2, line[2] + 3):
                    told = sum(1 for rest in rests[:n] if rest < bound)
                    self.assert_tells(rests_beneath(line, n, bound), told, (line, n, bound))

    def test_great_lines_and_few_places(self):
        for line in slow.great_lines():
            m = line[2]
            rests = [rest_at(line, place) for place in range(6)]
            at_rests = [rest + more for rest in rests[:3] for more in (0, 1)]
            for bound in [-BIGGEST, -1, 0, 1, m // 2, m - 1, m, m + 1, BIGGEST] + at_rests:
                for n in (0, 1, 6):
                    told = sum(1 for rest in rests[:n] if rest < bound)
                    self.assert_tells(rests_beneath(line, n, bound), told, (line, n, bound))

    def test_counts_of_sixty_figures_by_rounds(self):
        for m in (1, 2, 3, 7, 12, 101):
            for a in (-BIGGEST, -1, 0, 1, m - 1, m, BIG):
                for b in (-BIGGER, 0, m - 1, BIGGEST):
                    for n in COUNTS:
                        for bound in (-BIG, -1, 0, 1, m // 2, m - 1, m, m + 1, BIG):
                            told = beneath_by_rounds((a, b, m), n, bound)
                            self.assert_tells(rests_beneath((a, b, m), n, bound), told)

    def test_none_and_all(self):
        for line in slow.great_lines():
            m = line[2]
            for n in (0, 1, BIGGEST):
                for bound in (0, -1, -m, -BIGGEST):
                    self.assert_tells(rests_beneath(line, n, bound), 0)
                for bound in (m, m + 1, 2 * m, BIGGEST + m):
                    self.assert_tells(rests_beneath(line, n, bound), n)

    def test_whole_turns(self):
        small, great = slow.golden_pair()
        for line in list(slow.great_lines()) + [(small, 3, great), (great - small, -1, great)]:
            m = line[2]
            for bound in (-1, 0, 1, 2, m // 3, m // 2, m - 1, m, m + 1):
                told = beneath_in_one_turn(line, bound)
                self.assert_tells(rests_beneath(line, m, bound), told, (line, bound))
                self.assert_tells(rests_beneath(line, 9 * m, bound), 9 * told, (line, bound))

    def test_one_more_place(self):
        for line in GREAT_LINES:
            for n in COUNTS:
                rest = rest_at(line, n)
                for bound, more in ((rest - 1, 0), (rest, 0), (rest + 1, 1), (rest + 2, 1)):
                    told = rests_beneath(line, n + 1, bound) - rests_beneath(line, n, bound)
                    self.assert_tells(told, more, (line, n, bound))

    def test_no_line(self):
        for n in (0, 1, BIGGEST):
            for bound in (-BIG, 0, 1, BIG):
                self.assert_no_line(rests_beneath, n, bound)


class Within(Case):

    def test_as_written_out(self):
        for line, low, high, told in (
            ((3, 2, 5), 2, 2, 0),
            ((3, 2, 5), 0, 4, 0),
            ((3, 2, 5), 0, 0, 1),
            ((3, 2, 5), 3, 4, 2),
            ((3, 2, 5), 1, 1, 3),
            ((3, 2, 5), 4, 4, 4),
            ((4, 1, 6), 0, 0, None),
            ((4, 1, 6), 2, 2, None),
            ((4, 1, 6), 2, 3, 2),
            ((4, 1, 6), 4, 5, 1),
            ((0, 3, 7), 3, 3, 0),
            ((0, 3, 7), 4, 6, None),
            ((7, 3, 7), 0, 2, None),
            ((-1, 0, 10), 4, 6, 4),
            ((0, 0, 1), 0, 0, 0),
            ((5, -3, 1), 0, 0, 0),
        ):
            with self.subTest(line=line, low=low, high=high):
                self.assertEqual(first_within(line, low, high), told)

    def check_all(self, line):
        for low in range(line[2]):
            for high in range(low, line[2]):
                told = first_within(line, low, high)
                expected = slow.first_place(line, low, high)
                self.assertEqual(told, expected, (line, low, high))
                if expected is not None:
                    self.assert_whole(told)

    def test_small_lines(self):
        for line in slow.small_lines(9, 8):
            self.check_all(line)

    def test_every_a_at_some_m(self):
        for m in (11, 12, 16, 21):
            for a in range(m):
                for b in (0, 1, m // 2, m - 1):
                    self.check_all((a, b, m))

    def test_numbers_of_some_figures(self):
        for line in ((355, 113, 1000), (-618, 1000, 999), (997, -12345, 641), (512, 3, 768)):
            m = line[2]
            for low, high in ((0, 0), (0, 5), (7, 7), (m // 2, m // 2 + 3), (m - 1, m - 1), (3, m - 1)):
                expected = slow.first_place(line, low, high)
                self.assertEqual(first_within(line, low, high), expected, (line, low, high))

    def test_a_single_rest_of_sixty_figures(self):
        # With no common measure each rest comes at just one place below m.
        small, great = slow.golden_pair()
        for a, b, m in (
            (BIG, -BIGGEST, BIGGER), (small, 7, great), (great - small, -7, great), (1, 5, BIGGEST),
            (BIGGEST - 1, 1, BIGGEST), (7, 0, 10 ** 59), (-BIG, BIGGER, 10 ** 60 - 1),
        ):
            self.assertEqual(gcd(a, m), 1)
            for place in (0, 1, 2, m // 3, m // 2, m - 2, m - 1):
                rest = (a * place + b) % m
                self.assert_tells(first_within((a, b, m), rest, rest), place, (a, b, m))

    def test_a_common_measure_leaves_rests_out(self):
        for step in (2, 6, 10 ** 20, BIG):
            small, great = 3 * 10 ** 8 + 1, 7 * 10 ** 8 + 11
            self.assertEqual(gcd(small, great), 1)
            for b in (0, 1, step - 1, -BIGGEST):
                line = (small * step, b, great * step)
                least = b % step
                for place in (1, 5, great - 1):
                    rest = rest_at(line, place)
                    self.assert_tells(first_within(line, rest, rest), place, line)
                    self.assertEqual(rest % step, least)
                    behind = rest - least + step
                    if least < step - 1:
                        self.assertIsNone(first_within(line, rest + 1, behind - 1), line)
                    if least > 0:
                        self.assertIsNone(first_within(line, rest - least, rest - 1), line)

    def test_nothing_within_comes_ahead(self):
        for line in GREAT_LINES:
            m = line[2]
            for low in (0, 1, m // 7, m // 2, m - 1):
                for wide in (0, 1, 10 ** 20, 10 ** 40, m // 9):
                    high = min(low + wide, m - 1)
                    place = first_within(line, low, high)
                    # Behind m places the rests come again, so those tell whether there is one.
                    ahead = m if place is None else place
                    within = rests_beneath(line, ahead, high + 1) - rests_beneath(line, ahead, low)
                    self.assert_tells(within, 0, (line, low, high))
                    if place is not None:
                        self.assert_whole(place)
                        self.assertTrue(0 <= place < m and low <= rest_at(line, place) <= high)

    def test_consecutive_rests(self):
        for m in (BIG, BIGGEST):
            for low, high in ((0, 0), (1, 1), (BIG // 2, BIG // 2 + 5), (5, m - 1), (m - 1, m - 1)):
                self.assert_tells(first_within((1, 0, m), low, high), low)
                self.assert_tells(first_within((m - 1, 0, m), low, high), -high % m if low > 0 else 0)
                self.assert_tells(first_within((1, 3, m), low, high), 0 if low <= 3 <= high else (low - 3) % m)

    def test_all_rests(self):
        for line in slow.great_lines():
            self.assert_tells(first_within(line, 0, line[2] - 1), 0, line)

    def test_no_stretch(self):
        for line in ((3, 2, 5), (0, 0, 1), (-3, BIG, 7), (BIG, -BIGGEST, BIGGER)):
            m = line[2]
            for low, high in (
                (-1, 0), (-1, m - 1), (-BIG, 0), (0, m), (0, m + 1), (m - 1, m), (0, BIGGEST + m),
                (m, m), (m, m - 1), (-1, m), (-1, -1), (-1, -2), (0, -1), (m - 1, m - 2), (m + 1, m),
                (BIGGEST, -BIGGEST), (-BIGGEST, BIGGEST),
            ):
                self.assert_refused(NoStretch, first_within, line, low, high)
        self.assert_refused(NoStretch, first_within, (3, 2, 5), 3, 2)
        self.assert_refused(NoStretch, first_within, (3, 2, 5), 4, 0)

    def test_no_line_comes_first(self):
        for low, high in ((0, 0), (-1, 0), (1, 0), (0, BIG), (-BIG, -BIGGEST)):
            self.assert_no_line(first_within, low, high)


class InOrder(Case):

    def test_as_written_out(self):
        # The rests are 2, 0, 3, 1, 4, 2, 0.
        for number, told in enumerate(((0, 1), (0, 6), (1, 3), (2, 0), (2, 5), (3, 2), (4, 4))):
            self.assert_pair(in_order((3, 2, 5), 7, number), told)
        self.assert_pair(in_order((3, 2, 5), 1, 0), (2, 0))
        self.assert_pair(in_order((0, -1, 4), 9, 6), (3, 6))
        self.assert_pair(in_order((9, 9, 1), 9, 8), (0, 8))

    def test_small_lines(self):
        for line in slow.small_lines(4, 6):
            for n in (1, 2, 5, 6, 13):
                for number, told in enumerate(slow.ordered(line, n)):
                    self.assert_pair(in_order(line, n, number), told, (line, n, number))

    def test_numbers_of_some_figures(self):
        for line in ((355, 113, 1000), (-618, 1000, 999), (997, -12345, 641), (512, 3, 768)):
            for n in (40, 800):
                told = slow.ordered(line, n)
                for number in (0, 1, 2, n // 3, n // 2, n - 2, n - 1):
                    self.assert_pair(in_order(line, n, number), told[number], (line, n, number))

    def test_great_lines_and_few_places(self):
        for line in GREAT_LINES:
            for n in (1, 2, 3, 8):
                told = sorted((rest_at(line, place), place) for place in range(n))
                for number in range(n):
                    self.assert_pair(in_order(line, n, number), told[number], (line, n, number))

    def test_counts_of_sixty_figures_by_rounds(self):
        for line in ((5, -3, 7), (-BIG, BIGGEST, 12), (8, 3, 12), (0, -1, 2), (-4, 9, 1), (77, 5, 101)):
            for n in COUNTS:
                for number in (0, 1, 2, n // 12, n // 7 - 1, n // 7, n // 2, BIG // 3, n - 2, n - 1):
                    told = ordered_by_rounds(line, n, number)
                    self.assert_pair(in_order(line, n, number), told, (line, n, number))

    def test_each_rest_once(self):
        # With no common measure the first m places have each rest just once.
        small, great = slow.golden_pair()
        for a, b, m in (
            (BIG, -BIGGEST, BIGGER), (small, 7, great), (-BIG, BIGGER, BIGGEST), (1, 5, BIG), (BIG - 1, 0, BIG),
        ):
            back = pow(a, -1, m)
            for number in (0, 1, m // 3, m - 2, m - 1):
                told = (number, (number - b) * back % m)
                self.assert_pair(in_order((a, b, m), m, number), told, (a, b, m))

    def test_alike_rests_by_place(self):
        for m in (1, 9, BIG):
            for n in COUNTS:
                for number in (0, 1, BIG // 2, n - 1):
                    self.assert_pair(in_order((3 * m, m - 1, m), n, number), (m - 1, number))
                    self.assert_pair(in_order((0, -1, m), n, number), (m - 1, number))

    def test_just_as_many_come_ahead(self):
        for line in GREAT_LINES:
            for n in (10 ** 30, BIG, BIGGEST):
                for number in (0, 10 ** 20, n // 2, n - 1):
                    rest, place = in_order(line, n, number)
                    self.assert_whole(rest, place)
                    self.assertEqual(rest_at(line, place), rest)
                    self.assertTrue(0 <= place < n)
                    ahead = rests_beneath(line, n, rest)
                    alike = rests_beneath(line, place, rest + 1) - rests_beneath(line, place, rest)
                    self.assertEqual(ahead + alike, number, (line, n, number))

    def test_no_place(self):
        for line in ((3, 2, 5), (0, 0, 1), (BIG, -BIGGEST, BIGGER)):
            for n in (1, 2, 5, BIGGEST):
                for number in (-BIGGEST, -n, -1, n, n + 1, BIGGEST + 1):
                    self.assert_refused(NoPlace, in_order, line, n, number)
            for n in (0, -1, -2, -BIGGEST):
                for number in (-BIGGEST, n - 1, n, -1, 0, 1, BIGGEST):
                    self.assert_refused(NoPlace, in_order, line, n, number)

    def test_no_line_comes_first(self):
        for n, number in ((1, 0), (5, 5), (5, -1), (0, 0), (-1, 0), (-BIGGEST, BIGGEST), (BIGGEST, 7)):
            self.assert_no_line(in_order, n, number)


class Asking(Case):

    def test_asked_again_is_answered_the_same(self):
        for line in ((7, -3, 5), (BIG, -BIGGEST, BIGGER)):
            self.assert_asked_again(rests_beneath, ((1, 1, 0), 5, 3), line, BIG, 3)
            self.assert_asked_again(first_within, (line, 3, 2), line, 1, 1)
            self.assert_asked_again(first_within, (line, -1, 2), line, 2, 4)
            self.assert_asked_again(in_order, (line, 5, 5), line, BIG, 7)


if __name__ == "__main__":
    unittest.main()
