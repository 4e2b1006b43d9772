"""Stage 7: papers, points [16] and [17], and [2], [3] and [4] as far as they touch them."""

import unittest
from random import Random

import slow
from cases import Case
from slow import BIG, BIGGER, BIGGEST
from turnedline.papers import sum_paper, sum_shown
from turnedline.sums import sum_parts

SMALL, GREAT = slow.golden_pair()
COUNTS = (0, 1, 2, 10 ** 30 + 7, BIG, BIGGER, BIGGEST)
LINES = (
    (SMALL, 0, GREAT), (SMALL, -7, GREAT), (-SMALL, GREAT - 1, GREAT), (GREAT, 5, SMALL),
    (BIG, -BIGGEST, BIGGER), (-BIGGER, BIGGEST, BIG), (BIGGEST, -BIG, 1), (-BIGGEST, BIGGEST, 1),
    (1, 0, BIGGEST), (BIGGEST - 1, BIGGEST - 1, BIGGEST), (7, -3, 5), (0, -BIG, BIGGER), (0, 0, 1),
)
# Papers of one row, of two, of three and of more; sums above 0, at 0 and below.
SHOWN = (
    ((3, 2, 5), 0), ((0, 0, 1), 4), ((9, -4, 3), 6), ((3, 2, 5), 4), ((13, 7, 5), 9), ((-8, 3, 13), 30),
    ((34, -3, 55), 40), ((0, -7, 5), 3), ((1, 0, 2), BIGGEST), ((BIG, -BIGGEST, BIGGER), BIGGEST),
)


def put(paper, at, row):
    return paper[:at] + (row,) + paper[at + 1:]


def sums_made_to_fit(paper):
    """The rows with sums that fit one another as [17] tells, whatever the lines and counts are."""
    rows = []
    total = 0
    for n, (a, b, m), old in reversed(paper):
        total += a // m * (n * (n - 1) // 2) + b // m * n
        rows.append((n, (a, b, m), total))
    return tuple(reversed(rows))


def flat_put_otherwise(paper, by):
    """The papers that have one number of one row more, by as much."""
    for at, (n, (a, b, m), total) in enumerate(paper):
        numbers = [n, a, b, m, total]
        for place in range(5):
            other = list(numbers)
            other[place] += by
            yield put(paper, at, (other[0], (other[1], other[2], other[3]), other[4]))


class PaperCase(Case):

    def assert_rows(self, paper):
        self.assertIs(type(paper), tuple)
        for row in paper:
            self.assertIs(type(row), tuple)
            self.assertEqual(len(row), 3)
            n, line, total = row
            self.assert_whole(n, total)
            self.assert_line(line)

    def assert_not_shown(self, line, n, total, paper):
        told = sum_shown(line, n, total, paper)
        self.assertIs(told, False, (line, n, total, paper))

    def assert_shown(self, line, n, total, paper):
        told = sum_shown(line, n, total, paper)
        self.assertIs(told, True, (line, n, total, paper))


class Papers(PaperCase):

    def test_as_written_out(self):
        for line, n, told in (
            ((3, 2, 5), 4, ((4, (3, 2, 5), 4), (2, (5, 4, 3), 4), (1, (3, 2, 2), 1))),
            ((7, -3, 5), 20, ((20, (7, -3, 5), 246), (8, (5, 2, 2), 76), (4, (2, 0, 1), 12))),
            ((3, 2, 5), 0, ((0, (3, 2, 5), 0),)),
            ((3, 1, 5), 1, ((1, (3, 1, 5), 0),)),
            ((0, 0, 1), 9, ((9, (0, 0, 1), 0),)),
            ((0, -6, 5), 3, ((3, (0, -6, 5), -6),)),
            ((5, 5, 5), 3, ((3, (5, 5, 5), 6),)),
            ((-2, 7, 1), 3, ((3, (-2, 7, 1), 15),)),
            ((1, 0, BIG), BIG, ((BIG, (1, 0, BIG), 0), (1, (BIG, 0, 1), 0))),
        ):
            with self.subTest(line=line, n=n):
                self.assertEqual(sum_paper(line, n), told)

    def test_small_lines(self):
        for line in slow.small_lines(6, 6):
            for n in (0, 1, 2, 3, 5, 8, 13):
                told = sum_paper(line, n)
                self.assert_rows(told)
                self.assertEqual(told, slow.paper(line, n), (line, n))

    def test_lines_of_some_figures(self):
        for line in ((355, 113, 1000), (-618, 1000, 999), (997, -12345, 641), (512, 0, 768)):
            for n in (50, 700):
                self.assertEqual(sum_paper(line, n), slow.paper(line, n), (line, n))

    def check_made_of_the_one_ahead(self, line, n):
        paper = sum_paper(line, n)
        self.assert_rows(paper)
        self.assertEqual(paper[0][:2], (n, line))
        for at, (count, (a, b, m), total) in enumerate(paper):
            self.assertEqual(total, sum_parts((a, b, m), count))
            k, rest = divmod(a % m * count + b % m, m)
            if at + 1 < len(paper):
                self.assertGreater(k, 0)
                self.assertEqual(paper[at + 1][:2], (k, (m, rest, a % m)))
            else:
                self.assertEqual(k, 0)

    def test_numbers_of_sixty_figures(self):
        for line in LINES:
            for n in COUNTS:
                self.check_made_of_the_one_ahead(line, n)

    def test_great_lines(self):
        for line in slow.great_lines():
            for n in (1, 5, BIGGER):
                self.check_made_of_the_one_ahead(line, n)

    def test_many_rows(self):
        self.assertGreater(len(sum_paper((SMALL, 0, GREAT), GREAT)), 140)

    def test_somewhat_beyond_sixty_figures(self):
        self.check_made_of_the_one_ahead((10 ** 70 + 9, -10 ** 71, 10 ** 69 + 1), 10 ** 70)

    def test_no_line(self):
        for n in (0, 1, 5, BIGGEST):
            self.assert_no_line(sum_paper, n)


class Shown(PaperCase):

    def test_the_paper_and_its_sum(self):
        for line in slow.small_lines(4, 5):
            for n in (0, 1, 2, 5, 9):
                self.assert_shown(line, n, slow.sum_of_parts(line, range(n)), slow.paper(line, n))
        for line in LINES:
            for n in COUNTS:
                self.assert_shown(line, n, sum_parts(line, n), sum_paper(line, n))

    def test_rows_made_anew(self):
        for line, n in SHOWN:
            paper = tuple((count, tuple(list(row)), total) for count, row, total in list(sum_paper(line, n)))
            self.assert_shown(line, n, sum_parts(line, n), paper)

    def test_another_sum(self):
        for line, n in SHOWN:
            paper = sum_paper(line, n)
            total = paper[0][2]
            for by in (1, -1, 2, -7, BIG, -BIGGEST, 10 ** 200, -10 ** 200):
                self.assert_not_shown(line, n, total + by, paper)
                # The first row's sum, too, or all of them.
                row = (n, line, total + by)
                self.assert_not_shown(line, n, total + by, put(paper, 0, row))
                alike = tuple((count, old, old_total + by) for count, old, old_total in paper)
                self.assert_not_shown(line, n, total + by, alike)
                self.assert_not_shown(line, n, total, alike)

    def test_a_number_more_or_less(self):
        for line, n in SHOWN:
            paper = sum_paper(line, n)
            for by in (1, -1, 5, -BIG, BIGGEST, 10 ** 130):
                for other in flat_put_otherwise(paper, by):
                    self.assert_not_shown(line, n, paper[0][2], other)
                    self.assert_not_shown(line, n, other[0][2], other)

    def test_sums_that_fit_one_another_again(self):
        for line, n in SHOWN:
            paper = sum_paper(line, n)
            self.assertEqual(sums_made_to_fit(paper), paper)
            for by in (1, -1, 2, 60):
                for other in flat_put_otherwise(paper, by):
                    if any(row[1][2] < 1 for row in other):
                        continue
                    fitting = sums_made_to_fit(other)
                    if fitting == paper:
                        # It was the sum alone that was put otherwise.
                        continue
                    self.assert_not_shown(line, n, fitting[0][2], fitting)
                    self.assert_not_shown(line, n, paper[0][2], fitting)

    def test_the_last_sum_moved_and_those_ahead_with_it(self):
        for line, n in SHOWN:
            paper = sum_paper(line, n)
            for at in range(len(paper)):
                for by in (1, -1, BIG):
                    moved = tuple((count, old, total + by) for count, old, total in paper[:at + 1])
                    other = moved + paper[at + 1:]
                    self.assert_not_shown(line, n, other[0][2], other)

    def test_a_row_gone_twice_elsewhere_or_more(self):
        for line, n in SHOWN:
            paper = sum_paper(line, n)
            total = paper[0][2]
            more = ((0, (0, 0, 1), 0), (n, line, total), (1, (1, 0, 2), 0), (0, (3, 2, 5), 0))
            for at in range(len(paper)):
                self.assert_not_shown(line, n, total, paper[:at] + paper[at + 1:])
                self.assert_not_shown(line, n, total, paper[:at])
                self.assert_not_shown(line, n, total, paper[:at + 1] + paper[at:])
                for other_at in range(at):
                    swapped = put(put(paper, at, paper[other_at]), other_at, paper[at])
                    self.assert_not_shown(line, n, total, swapped)
            for at in range(len(paper) + 1):
                for row in more:
                    self.assert_not_shown(line, n, total, paper[:at] + (row,) + paper[at:])
            self.assert_not_shown(line, n, total, paper + paper)
            if len(paper) > 1:
                self.assert_not_shown(line, n, total, paper[::-1])
                self.assert_not_shown(line, n, total, paper[1:] + paper[:1])

    def test_the_end_cut_off_with_sums_that_fit(self):
        for line, n in SHOWN:
            paper = sum_paper(line, n)
            for at in range(1, len(paper)):
                cut = sums_made_to_fit(paper[:at])
                self.assert_not_shown(line, n, cut[0][2], cut)
                self.assert_not_shown(line, n, paper[0][2], cut)

    def test_no_rows_at_all(self):
        for line, n in SHOWN:
            for total in (0, 1, -1, sum_parts(line, n)):
                self.assert_not_shown(line, n, total, ())

    def test_the_paper_of_something_else_with_the_same_sum(self):
        for line, n, other, other_n in (
            ((0, 0, 1), 4, (0, 0, 1), 5), ((0, 1, 5), 4, (0, 2, 5), 4), ((0, 0, 1), 0, (3, 2, 5), 0),
            ((3, 2, 5), 4, (6, 4, 10), 4), ((3, 2, 5), 4, (5, 4, 3), 2), ((3, 2, 5), 0, (3, 2, 5), 1),
            ((1, 0, BIG), 5, (1, 0, BIG), 6), ((2, -3, 1), 4, (0, 0, 1), 4),
        ):
            total = sum_parts(line, n)
            self.assertEqual(sum_parts(other, other_n), total)
            self.assert_not_shown(line, n, total, sum_paper(other, other_n))
            self.assert_not_shown(other, other_n, total, sum_paper(line, n))

    def test_any_rows(self):
        chance = Random(21)
        numbers = (0, 1, 2, -1, -5, 7, BIG, -BIGGEST, 10 ** 100)
        for turn in range(3000):
            rows = tuple(
                (chance.choice(numbers), tuple(chance.choice(numbers) for part in range(3)), chance.choice(numbers))
                for row in range(chance.randint(0, 4))
            )
            # Two rows at least are lacking, whatever stands here.
            self.assert_not_shown((34, -3, 55), 40, chance.choice(numbers), rows)

    def test_false_of_no_line(self):
        for m in (0, -1, -5, -BIGGEST):
            for a, b in ((0, 0), (3, 2), (-3, BIG), (m, m)):
                line = (a, b, m)
                for n in (0, 1, 4, BIGGEST):
                    for total in (0, 4, -BIG):
                        for paper in (
                            (), ((n, line, total),), ((n, line, total), (0, (0, 0, 1), 0)), sum_paper((3, 2, 5), 4),
                            ((n, (a, b, 1), total),), ((n, (a, b, -m + 1), total),), ((0, line, 0), (0, line, 0)),
                        ):
                            self.assert_not_shown(line, n, total, paper)


class Asking(PaperCase):

    def test_asked_again_is_answered_the_same(self):
        for line in ((7, -3, 5), (BIG, -BIGGEST, BIGGER)):
            self.assert_asked_again(sum_paper, ((1, 1, 0), BIG), line, BIG)

    def test_looking_changes_nothing(self):
        for line, n in SHOWN:
            paper = sum_paper(line, n)
            before = repr(paper)
            for turn in range(2):
                self.assert_shown(line, n, paper[0][2], paper)
                self.assert_not_shown(line, n, paper[0][2] + 1, paper)
                self.assert_not_shown((1, 1, 0), n, paper[0][2], paper)
                self.assertEqual(repr(paper), before)
                self.assertEqual(sum_paper(line, n), paper)


if __name__ == "__main__":
    unittest.main()
