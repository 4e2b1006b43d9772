"""Stage 5: points between lines, points [12] and [13], and [2], [3] and [4] as far as they touch them."""

import unittest
from itertools import product
from math import gcd
from random import Random

import slow
from cases import Case
from slow import BIG, BIGGER, BIGGEST
from turnedline.errors import NoLine, NoStretch
from turnedline.points import ends_between, points_between
from turnedline.rests import first_within, rests_beneath
from turnedline.sums import sum_between

LEVEL = ((0, 0, 1),)
STRETCHES = ((-4, 5), (0, 7), (-7, 0), (3, 4), (2, 2), (-3, -3))


def upside_down(lines):
    return tuple((-a, -b, m) for a, b, m in lines)


def moved(lines, by):
    """The lines as they are seen from the place by on."""
    return tuple((a, a * by + b, m) for a, b, m in lines)


def line_through(one, other):
    """The line whose heights, over m, go through two points, the first one at a lesser x."""
    m = other[0] - one[0]
    a = other[1] - one[1]
    return (a, one[1] * m - one[0] * a, m)


def points_of_triangle(corners):
    """How many points a triangle has, edges included, by its area and the points on its edges."""
    (ax, ay), (bx, by), (cx, cy) = corners
    twice_area = abs((bx - ax) * (cy - ay) - (cx - ax) * (by - ay))
    on_edges = gcd(bx - ax, by - ay) + gcd(cx - bx, cy - by) + gcd(ax - cx, ay - cy)
    return (twice_area + on_edges + 2) // 2


class PointsCase(Case):

    def assert_points(self, above, beneath, low, high):
        """Both functions tell what going place by place does."""
        asked = (above, beneath, low, high)
        total, ends = slow.points(*asked)
        self.assert_tells(points_between(*asked), total, asked)
        self.assert_ends(asked, ends)

    def assert_ends(self, asked, ends):
        told = ends_between(*asked)
        if ends is None:
            self.assertIsNone(told, asked)
        else:
            self.assert_pair(told, ends, asked)


class AsWrittenOut(PointsCase):

    def test_some(self):
        for above, beneath, low, high, total, ends in (
            # y from 0 to the part of 3 * x + 2 over 5: 0, 1, 1, 2.
            (((3, 2, 5),), LEVEL, 0, 4, 8, (0, 3)),
            (((3, 2, 5),), LEVEL, -3, 4, 8, (0, 3)),
            # y from x over 2, rounded up, to x: at 0, 1, 2, 3 there are 1, 1, 2, 2.
            (((1, 0, 1),), ((1, 0, 2),), -5, 4, 6, (0, 3)),
            # A roof of two lines over the floor: 0 at -3 and 3, 3 at 0.
            (((1, 3, 1), (-1, 3, 1)), LEVEL, -9, 9, 16, (-3, 3)),
            # A line above itself: only where it goes through a whole point.
            (((2, 1, 3),), ((2, 1, 3),), 0, 10, 3, (1, 7)),
            (((2, 1, 4),), ((2, 1, 4),), -50, 50, 0, None),
            # Too near to each other for any y.
            (((0, 2, 3),), ((0, 1, 3),), -50, 50, 0, None),
            # The lines above lie beneath.
            (((0, -1, 1),), LEVEL, -50, 50, 0, None),
            (((0, -BIG, 1),), LEVEL, -BIG, BIG, 0, None),
            (LEVEL, LEVEL, -50, 50, 100, (-50, 49)),
            (LEVEL, LEVEL, 3, 3, 0, None),
            (((0, 5, 1), (0, 9, 2)), ((0, -5, 2), (0, -1, 1), (0, -3, 2)), 0, 2, 12, (0, 1)),
        ):
            asked = (above, beneath, low, high)
            self.assert_tells(points_between(*asked), total, asked)
            self.assert_ends(asked, ends)


class PlaceByPlace(PointsCase):

    def test_one_line_on_each_side(self):
        lines = [(a, b, m) for m in (1, 2, 3) for a in (-3, -1, 0, 1, 2) for b in (-2, 0, 1, 4)]
        for above, beneath in product(lines, lines):
            self.assert_points((above,), (beneath,), -5, 6)

    def test_up_to_four_lines_on_each_side(self):
        chance = Random(12)

        def some_lines(many, height):
            return tuple(
                (chance.randint(-6, 6), height + chance.randint(-9, 9), chance.randint(1, 6))
                for line in range(many)
            )

        for many_above, many_beneath in product(range(1, 5), range(1, 5)):
            for height in (0, 0, 6, 12, 20, 40):
                for low, high in STRETCHES:
                    for turn in range(4):
                        above = some_lines(many_above, height)
                        beneath = some_lines(many_beneath, -height)
                        self.assert_points(above, beneath, low + turn, high + 3 * turn)

    def test_the_same_line_above_and_beneath(self):
        for line in slow.small_lines(4, 6):
            self.assert_points((line,), (line,), -7, 8)
            self.assert_points((line, (0, 3, 1)), ((-1, -2, 1), line), -7, 8)

    def test_a_line_twice_on_one_side(self):
        for one in slow.small_lines(2, 3):
            a, b, m = one
            for again in (one, (2 * a, 2 * b, 2 * m), (a, b + 1, m), (a, b, m + 1)):
                self.assert_points((one, again, one), LEVEL, -5, 6)
                self.assert_points(((0, 2, 1),), (again, one, again, one), -5, 6)

    def test_lines_that_cross_within(self):
        # Crossings at a whole place, between two places, and all lines at one place.
        for cross in (-2, 0, 3):
            above = tuple((a, 8 * m - a * cross, m) for a, m in ((3, 1), (-3, 1), (1, 2), (-5, 3)))
            beneath = tuple((a, -8 * m - a * cross, m) for a, m in ((-2, 1), (2, 1), (0, 1), (7, 3)))
            for many_above, many_beneath in product(range(1, 5), range(1, 5)):
                for low, high in ((-9, 10), (cross, cross + 1), (cross, 9), (-9, cross), (-9, cross + 1)):
                    self.assert_points(above[:many_above], beneath[:many_beneath], low, high)
                    self.assert_points(above[-many_above:], beneath[-many_beneath:], low, high)
        for shift in range(7):
            above = ((2, 9 + shift, 2), (-3, 14, 2), (0, 5, 1), (1, 20 - shift, 4))
            beneath = ((-2, -9 - shift, 3), (3, -14, 2), (1, -20 + shift, 4), (0, -11, 2))
            self.assert_points(above, beneath, -15, 16)

    def test_the_order_of_the_lines_does_not_matter(self):
        above = ((2, 9, 2), (-3, 14, 2), (0, 5, 1), (1, 20, 4))
        beneath = ((-2, -9, 3), (3, -14, 2), (1, -20, 4), (0, -11, 2))
        for turn in range(4):
            self.assert_points(above[turn:] + above[:turn], beneath[::-1], -15, 16)
            self.assert_points(above[::-1], beneath[turn:] + beneath[:turn], -15, 16)

    def test_lines_above_that_are_beneath_at_some_places(self):
        for b in range(-6, 7):
            self.assert_points(((1, b, 2),), ((-1, 0, 3),), -20, 21)
            self.assert_points(((-1, b, 2), (1, 9, 1)), ((1, 0, 3),), -20, 21)

    def test_two_thousand_places(self):
        for above, beneath in (
            (((1, 0, 997),), ((1, 0, 997),)),
            (((355, 7, 1130), (-3, 2000, 4)), ((355, 3, 1130), (-2, -3000, 5))),
            (((1, 1, 1000),), ((1, 0, 1000), (0, -1, 1))),
            (((1, 998, 1999),), ((1, 998, 1999),)),
        ):
            for low, high in ((0, 2000), (-1000, 1000), (-2000, 0), (-1500, 600)):
                self.assert_points(above, beneath, low, high)


class GreatNumbers(PointsCase):

    def test_great_lines_and_few_places(self):
        chance = Random(13)

        def some_lines(sign):
            return tuple(
                (
                    chance.choice((BIG, -BIG, 7, 0, -BIGGEST, BIGGEST)) // chance.choice((1, 3, 10 ** 50)),
                    sign * chance.choice((0, BIG, BIGGER, BIGGEST)),
                    chance.choice((1, 2, 10 ** 30 + 1, BIG, BIGGER, BIGGEST)),
                )
                for line in range(chance.randint(1, 4))
            )

        for turn in range(400):
            above, beneath = some_lines(1), some_lines(-1)
            for low, high in ((-3, 4), (-BIG, 5 - BIG), (BIGGEST - 4, BIGGEST), (10 ** 50, 10 ** 50 + 9)):
                self.assert_points(above, beneath, low, high)

    def test_lines_that_cross_at_a_great_place(self):
        for cross in (10 ** 50 + 7, -BIG, BIGGEST - 20):
            for height in (0, 1, 5, 10 ** 55):
                above = tuple(
                    (a, height * m - a * cross, m) for a, m in ((2, 1), (-3, 1), (10 ** 8, 7), (-1, 3))
                )
                beneath = tuple(
                    (a, -height * m - a * cross, m) for a, m in ((-2, 1), (5, 3), (10 ** 8, 9), (0, 1))
                )
                for low, high in ((-9, 10), (0, 1), (0, 9), (-9, 0), (-9, 1), (2, 2)):
                    self.assert_points(above, beneath, cross + low, cross + high)
                    self.assert_points(above[:1], beneath[1:2], cross + low, cross + high)

    def test_values_beyond_sixty_figures(self):
        above = ((BIGGEST, BIGGEST, 1), (BIGGER, -BIG, 1))
        beneath = ((-BIGGEST, 0, 1), (-BIG, BIGGEST, 2))
        self.assert_points(above, beneath, BIGGEST - 5, BIGGEST)
        self.assert_points(above, beneath, -BIGGEST, 5 - BIGGEST)
        self.assert_points(upside_down(beneath), upside_down(above), BIG, BIG + 5)

    def test_the_rows_beneath_a_slope(self):
        for n in (1, 2, BIG, BIGGEST):
            asked = (((1, 0, 1),), LEVEL, -BIGGEST, n)
            self.assert_tells(points_between(*asked), n * (n + 1) // 2)
            self.assert_ends(asked, (0, n - 1))
            # A roof, n high, over the floor.
            asked = (((1, n, 1), (-1, n, 1)), LEVEL, -BIGGEST - 1, BIGGEST + 1)
            self.assert_tells(points_between(*asked), (n + 1) * (n + 1))
            self.assert_ends(asked, (-n, n))

    def test_triangles(self):
        # The middle corner lies above the edge of the other two, or beneath it.
        for left, middle, right in (
            ((0, 0), (1, 5), (2, 0)),
            ((-7, 3), (2, 40), (19, -11)),
            ((-7, 3), (2, -40), (19, -11)),
            ((0, 0), (10 ** 28 + 7, 3 * 10 ** 28 + 1), (9 * 10 ** 28, 5)),
            ((-10 ** 28, 10 ** 27), (12345, -6 * 10 ** 28), (7 * 10 ** 28 + 9, 8 * 10 ** 28)),
            ((-6 * 10 ** 28, 0), (0, 4 * 10 ** 28), (10 ** 29, -2 * 10 ** 28)),
        ):
            sides = (line_through(left, middle), line_through(middle, right))
            across = (line_through(left, right),)
            a, b, m = across[0]
            is_above = middle[1] * m > a * middle[0] + b
            above, beneath = (sides, across) if is_above else (across, sides)
            told = points_of_triangle((left, middle, right))
            # Ahead of the left and behind the right corner the lines lie the other way.
            for low, high in ((left[0], right[0] + 1), (-BIGGEST, BIGGEST)):
                asked = (above, beneath, low, high)
                self.assert_tells(points_between(*asked), told, asked)
                self.assert_ends(asked, (left[0], right[0]))

    def test_lines_far_from_each_other_are_summed_by_themselves(self):
        for (a, b, m), far in (((-3, 7, 11), 10 ** 58), ((10 ** 20 + 3, -5, 10 ** 21 + 1), 10 ** 38)):
            for low, high in ((0, far // 10), (-far // 7, far // 9), (-far // 10, -7), (5, 2000)):
                above = (a, b + far * m, m)
                beneath = (-a, b - far * m, m)
                told = sum_between(above, low, high) + high - low
                told += sum_between((a, far * m - b, m), low, high)
                self.assert_tells(points_between((above,), (beneath,), low, high), told)
                self.assert_ends(((above,), (beneath,), low, high), (low, high - 1))

    def test_the_same_great_line_above_and_beneath(self):
        for line in ((BIG, -7, BIGGER), (6 * 10 ** 40, 12, 10 ** 59), (3, 0, 10 ** 50), (1 - BIG, 5, BIG)):
            for n in (10 ** 40, BIG, BIGGEST):
                told = rests_beneath(line, n, 1)
                self.assert_tells(points_between((line,), (line,), 0, n), told, (line, n))
            first = first_within(line, 0, 0)
            if first is None:
                self.assertIsNone(ends_between((line,), (line,), 0, 2000))
            else:
                self.assert_points((line,), (line,), first - 1000, first + 1000)

    def test_two_stretches_make_one(self):
        above = ((BIG, BIGGEST, BIGGER), (-BIG, BIGGEST, 10 ** 58), (3, BIG, 7), (-1, BIG, 2))
        beneath = ((-BIG, -BIGGEST, BIGGER), (BIG, -BIGGEST, 10 ** 57), (-3, -BIG, 5), (1, -BIG, 3))
        ends = (-BIGGEST, -BIG, -10 ** 50, -1, 0, 1, 10 ** 57, BIG, BIGGEST)
        for at, low in enumerate(ends):
            for after, middle in enumerate(ends[at:], at):
                for high in ends[after:]:
                    first = points_between(above, beneath, low, middle)
                    second = points_between(above, beneath, middle, high)
                    self.assert_tells(points_between(above, beneath, low, high), first + second)
                    turned_over = (upside_down(beneath), upside_down(above), low, high)
                    self.assert_tells(points_between(*turned_over), first + second)

    def test_seen_from_another_place(self):
        above = ((7, 90, 2), (-3, 140, 2), (0, 50, 3), (1, 200, 4))
        beneath = ((-2, -90, 3), (3, -140, 2), (1, -200, 4), (0, -110, 2))
        for by in (1, 10 ** 30, -10 ** 50 - 7, BIG):
            told = slow.points(above, beneath, -200, 200)
            first, last = told[1]
            asked = (moved(above, -by), moved(beneath, -by), by - 200, by + 200)
            self.assert_tells(points_between(*asked), told[0], asked)
            self.assert_ends(asked, (first + by, last + by))

    def test_places_more_than_two_thousand_apart(self):
        line = (1, 0, 2500)
        self.assert_ends(((line,), (line,), 1, 5001), (2500, 5000))
        self.assert_ends(((line,), (line,), -2499, 2500), (0, 0))
        self.assert_ends((LEVEL, LEVEL, -BIGGEST, BIGGEST), (-BIGGEST, BIGGEST - 1))


class NoPlaces(PointsCase):

    def test_a_stretch_of_no_place_has_no_point(self):
        for lines in (LEVEL, ((3, 2, 5), (BIG, -BIGGEST, BIGGER)), ((-1, BIG, 1),) * 4):
            for place in (0, 1, -1, 17, BIGGEST, -BIGGEST):
                for above, beneath in ((lines, LEVEL), (LEVEL, lines), (lines, lines)):
                    self.assert_tells(points_between(above, beneath, place, place), 0)
                    self.assertIsNone(ends_between(above, beneath, place, place))


class Refusals(PointsCase):

    def test_no_line_wherever_it_stands(self):
        good = ((3, 2, 5), (BIG, -BIGGEST, BIGGER), (0, 0, 1))
        for m in (0, -1, -5, -BIGGEST):
            for wrong in ((3, 2, m), (0, 0, m), (-BIG, BIG, m)):
                for at in range(4):
                    lines = good[:at] + (wrong,) + good[at:]
                    # Stretches of many places, of one, of none, and such that are none.
                    for low, high in ((-5, 5), (0, 1), (0, 0), (7, 7), (1, 0), (BIGGEST, -BIGGEST)):
                        for function in (points_between, ends_between):
                            self.assert_refused(NoLine, function, lines, good, low, high)
                            self.assert_refused(NoLine, function, good, lines, low, high)
                            self.assert_refused(NoLine, function, (wrong,), (wrong,), low, high)

    def test_no_line_where_there_is_no_point_anyway(self):
        for function in (points_between, ends_between):
            self.assert_refused(NoLine, function, ((0, -9, 1), (0, 0, 0)), LEVEL, 0, 5)
            self.assert_refused(NoLine, function, ((0, -9, 1),), LEVEL + ((0, 0, 0),), 0, 5)

    def test_no_stretch(self):
        for lines in (LEVEL, ((3, 2, 5), (BIG, -BIGGEST, BIGGER))):
            for low, high in ((1, 0), (0, -1), (-1, -2), (5, -5), (BIG, BIG - 1), (BIGGEST, -BIGGEST)):
                for function in (points_between, ends_between):
                    self.assert_refused(NoStretch, function, lines, LEVEL, low, high)
                    self.assert_refused(NoStretch, function, LEVEL, lines, low, high)
                    # Also where the lines have no point.
                    self.assert_refused(NoStretch, function, ((0, -9, 1),), LEVEL, low, high)


class Asking(PointsCase):

    def test_asked_again_is_answered_the_same(self):
        above = ((7, 90, 2), (-3, 140, 2), (BIG, BIGGEST, BIGGER))
        beneath = ((-2, -90, 3), (BIG, -BIGGEST, BIGGER))
        for function in (points_between, ends_between):
            for low, high in ((-1000, 1000), (0, 0), (10 ** 50, 10 ** 50 + 9)):
                handed = (above, beneath, low, high)
                self.assert_asked_again(function, (above, beneath, 1, 0), *handed)
                self.assert_asked_again(function, (above, ((0, 0, 0),), 0, 1), *handed)


if __name__ == "__main__":
    unittest.main()
