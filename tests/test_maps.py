"""Stage 6: maps along a line, points [14] and [15], and [2], [3] and [4] as far as they touch them."""

import unittest
from itertools import product
from random import Random

import slow
from cases import Case
from slow import BIG, BIGGER, BIGGEST
from turnedline.errors import NoLine, NoMap, NoTurn
from turnedline.lines import part_at
from turnedline.maps import map_along, word_along
from turnedline.squares import sum_squares
from turnedline.sums import sum_parts

MOST_K = 10 ** 12 - 1
KS = (1, 2, 3, 4, 10, 97, 10 ** 12 - 11, MOST_K)
COUNTS = (0, 1, 2, 10 ** 30 + 7, BIG, BIGGER, BIGGEST)
SMALL, GREAT = slow.golden_pair()
RISING_LINES = (
    (SMALL, 0, GREAT), (SMALL, -7, GREAT), (GREAT, GREAT - 1, SMALL), (BIG, -BIGGEST, BIGGER),
    (BIGGER, BIGGEST, BIG), (BIGGEST, -BIG, 1), (1, BIGGEST, BIGGEST), (1, 0, BIGGEST),
    (BIGGEST - 1, BIGGEST - 1, BIGGEST), (7, -3, 5), (0, -BIG, BIGGER), (0, 5, 1), (BIG, 0, BIG),
    (6 * 10 ** 40, 12, 10 ** 59), (2 * BIG, -1, BIG), (10 ** 59, 3, 10 ** 30 + 57),
)


def lines_of_every_kind(most):
    """Lines with a at 0, below m, at m and far beyond; b below 0, at 0 and beyond m."""
    for m in range(1, most + 1):
        for a in sorted({0, 1, m // 2, m - 1, m, m + 1, 2 * m, 3 * m + 1, 11 * m - 1}):
            for b in sorted({-3 * m - 1, -m, 1 - m, -1, 0, 1, m // 2, m - 1, m, m + 1, 4 * m + 2}):
                yield (a, b, m)


def some_maps(chance, k, many):
    for turn in range(many):
        yield tuple((chance.randrange(k), chance.randrange(k)) for side in range(2))


def map_by_places(line, places, over, up, k):
    """Place by place, but the ups of one place at once, since there may be many."""
    a, b, m = line
    maps = []
    for x in places:
        ups = (a * (x + 1) + b) // m - (a * x + b) // m
        maps += [over, slow.repeated_map(up, ups, k)]
    return slow.chained_maps(maps, k)


def map_by_rounds(line, n, over, up, k):
    """Behind m places the part grows as it did from the first place on, so rounds are alike."""
    m = line[2]
    one_round = map_by_places(line, range(m), over, up, k)
    rounds = slow.repeated_map(one_round, n // m, k)
    return slow.chained_maps((rounds, map_by_places(line, range(n % m), over, up, k)), k)


class AsWrittenOut(Case):

    def test_words(self):
        for line, n, told in (
            ((3, 2, 5), 0, ""),
            ((3, 2, 5), 1, "ru"),
            ((3, 2, 5), 4, "rurrur"),
            ((7, 3, 5), 2, "ruuru"),
            ((0, 4, 5), 3, "rrr"),
            ((0, -4, 5), 3, "rrr"),
            ((5, 0, 5), 2, "ruru"),
            ((2, -3, 1), 1, "ruu"),
            ((1, -1, 3), 4, "rurrru"),
            ((1, 0, 3), 3, "rrru"),
            ((1, 2, 3), 3, "rurr"),
            ((1, 0, BIGGEST), 500, 500 * "r"),
            ((1, BIGGEST - 1, BIGGEST), 3, "rurr"),
            ((499, BIG, 1), 1, "r" + 499 * "u"),
            ((BIGGEST, 0, BIGGEST), 250, 250 * "ru"),
        ):
            with self.subTest(line=line, n=n):
                self.assertEqual(word_along(line, n), told)

    def test_maps(self):
        for line, n, over, up, k, told in (
            # Over, up, over, over, up, over lead x to 2x + 1, 6x + 7, 2x + 5, 4x + 1, 2x + 7, 4x + 5.
            ((3, 2, 5), 4, (2, 1), (3, 4), 10, (4, 5)),
            ((3, 2, 5), 1, (2, 1), (3, 4), 10, (6, 7)),
            ((3, 1, 5), 1, (2, 1), (3, 4), 10, (2, 1)),
            # Over, up, up leads x to 2x + 1, 6x + 7, 18x + 25.
            ((2, -3, 1), 1, (2, 1), (3, 4), 100, (18, 25)),
            ((0, -3, 2), 3, (2, 1), (3, 4), 100, (8, 7)),
            ((3, 2, 5), 0, (2, 1), (3, 4), 10, (1, 0)),
            ((3, 2, 5), 0, (0, 0), (0, 0), 2, (1, 0)),
            ((3, 2, 5), 0, (0, 0), (0, 0), 1, (0, 0)),
            ((3, 2, 5), BIG, (0, 0), (0, 0), 1, (0, 0)),
        ):
            asked = (line, n, over, up, k)
            self.assert_pair(map_along(*asked), told, asked)


class MapsPlaceByPlace(Case):

    def test_lines_of_every_kind(self):
        chance = Random(14)
        for line in lines_of_every_kind(6):
            words = [slow.word(line, n) for n in (0, 1, 2, 3, 5, 7, 13)]
            for k in KS:
                for over, up in some_maps(chance, k, 2):
                    for letters in words:
                        n = letters.count("r")
                        told = slow.map_of_word(letters, over, up, k)
                        self.assert_pair(map_along(line, n, over, up, k), told, (line, n, over, up, k))

    def test_any_two_maps(self):
        for line, n in (((3, 2, 5), 4), ((5, -4, 3), 3), ((2, 7, 7), 9), ((0, 1, 2), 3), ((8, 1, 4), 2)):
            letters = slow.word(line, n)
            for k in (1, 2, 3, 4):
                maps = list(product(range(k), range(k)))
                for over, up in product(maps, maps):
                    told = slow.map_of_word(letters, over, up, k)
                    self.assert_pair(map_along(line, n, over, up, k), told, (line, n, over, up, k))

    def test_lines_of_some_figures(self):
        chance = Random(15)
        for line in ((355, 113, 1000), (618, -1000, 999), (997, -12345, 641), (512, 3, 768), (1, 0, 89)):
            for n in (50, 700, 1500):
                letters = slow.word(line, n)
                for k in KS:
                    for over, up in some_maps(chance, k, 1):
                        told = slow.map_of_word(letters, over, up, k)
                        self.assert_pair(map_along(line, n, over, up, k), told, (line, n, over, up, k))

    def test_every_count(self):
        line, over, up, k = (34, -3, 55), (5, 7), (11, 2), MOST_K
        for n in range(150):
            told = slow.map_of_word(slow.word(line, n), over, up, k)
            self.assert_pair(map_along(line, n, over, up, k), told, n)

    def test_great_lines_and_few_places(self):
        chance = Random(16)
        for line in slow.great_lines():
            if line[0] < 0:
                continue
            for k in (1, 2, 10 ** 12 - 11):
                for over, up in some_maps(chance, k, 1):
                    for n in (0, 1, 2, 5):
                        told = map_by_places(line, range(n), over, up, k)
                        self.assert_pair(map_along(line, n, over, up, k), told, (line, n, over, up, k))

    def test_somewhat_beyond_the_sizes(self):
        chance = Random(17)
        k = 10 ** 15 + 37
        line = (10 ** 70 + 9, -10 ** 70, 10 ** 69 + 1)
        for over, up in some_maps(chance, k, 5):
            told = map_by_places(line, range(9), over, up, k)
            self.assert_pair(map_along(line, 9, over, up, k), told)


class GreatNumbers(Case):

    def test_whole_rounds(self):
        chance = Random(18)
        for line in (
            (5, -3, 7), (BIG, BIGGEST, 12), (8, 3, 12), (0, -1, 2), (4, 9, 1), (BIGGEST, -BIG, 1),
            (77, 5, 101), (34, 0, 55), (BIGGER, -BIGGER, 89), (100, 100, 101), (1, 0, 64),
        ):
            for n in COUNTS:
                for k in KS:
                    for over, up in some_maps(chance, k, 1):
                        told = map_by_rounds(line, n, over, up, k)
                        self.assert_pair(map_along(line, n, over, up, k), told, (line, n, over, up, k))

    def test_a_stretch_parted_in_two(self):
        chance = Random(19)
        for line in RISING_LINES:
            a, b, m = line
            for n in COUNTS:
                for first in sorted({0, 1, n // 3, n // 2, n - 1, n}):
                    if not 0 <= first <= n:
                        continue
                    k = chance.choice(KS)
                    for over, up in some_maps(chance, k, 1):
                        one = map_along(line, first, over, up, k)
                        other = map_along((a, a * first + b, m), n - first, over, up, k)
                        told = slow.chained_maps((one, other), k)
                        self.assert_pair(map_along(line, n, over, up, k), told, (line, n, first))

    def test_maps_that_move_all_alike_count(self):
        for line in RISING_LINES:
            for n in COUNTS:
                ups = part_at(line, n) - part_at(line, 0)
                for k in KS:
                    one = (1 % k, 1 % k)
                    none = (1 % k, 0)
                    self.assert_pair(map_along(line, n, one, none, k), (1 % k, n % k))
                    self.assert_pair(map_along(line, n, none, one, k), (1 % k, ups % k))
                    both = map_along(line, n, (1 % k, 5 % k), (1 % k, 3 % k), k)
                    self.assert_pair(both, (1 % k, (5 * n + 3 * ups) % k))

    def test_maps_that_stretch_alone(self):
        for line in RISING_LINES:
            for n in COUNTS:
                ups = part_at(line, n) - part_at(line, 0)
                for k in KS:
                    told = pow(2, n, k) * pow(3, ups, k) % k
                    self.assert_pair(map_along(line, n, (2 % k, 0), (3 % k, 0), k), (told, 0), (line, n, k))

    def test_maps_that_lead_all_to_one(self):
        for line in RISING_LINES:
            for n in COUNTS[1:]:
                ups = part_at(line, n) - part_at(line, 0)
                last_ups = part_at(line, n) - part_at(line, n - 1)
                for k in (2, 10, MOST_K):
                    # Only what comes behind the last over counts.
                    told = (0, (1 + 3 * last_ups) % k)
                    self.assert_pair(map_along(line, n, (0, 1), (1, 3 % k), k), told, (line, n, k))
                    if ups == 0:
                        continue
                    back = 0
                    if last_ups == 0 and line[0] > 0:
                        # The overs behind the last up: the places from which the part stays.
                        a, b, m = line
                        back = (a * n + b - m * part_at(line, n)) // a
                    self.assert_pair(map_along(line, n, (1, 1), (0, 1), k), (0, (1 + back) % k), (line, n, k))
                    self.assertEqual(map_along(line, n, (0, 1), (0, 0), k), (0, 1 if last_ups == 0 else 0))

    def test_the_order_of_overs_and_ups_by_sums(self):
        # Over adds 1, up takes times 1 + e. At e * e, (1 + e) ** d is 1 + d * e, so each over comes
        # to 1 and e more for each up behind it: together the sum of all that the part yet grows.
        e = 999983
        for line in RISING_LINES:
            for n in COUNTS:
                last = part_at(line, n)
                grown = last - part_at(line, 0)
                told = ((1 + grown * e) % (e * e), (n + e * (n * last - sum_parts(line, n))) % (e * e))
                self.assert_pair(map_along(line, n, (1, 1), (1 + e, 0), e * e), told, (line, n))

    def test_the_order_of_overs_and_ups_by_sums_of_squares(self):
        # At e * e * e, (1 + e) ** d is 1 + d * e + d * (d - 1) // 2 * e * e.
        e = 9973
        k = e * e * e
        for line in RISING_LINES:
            for n in COUNTS:
                last = part_at(line, n)
                parts, squares = sum_parts(line, n), sum_squares(line, n)
                single = n * last - parts
                double = (n * last * last - 2 * last * parts + squares - single) // 2
                grown = last - part_at(line, 0)
                stretched = 1 + grown * e + grown * (grown - 1) // 2 * e * e
                told = (stretched % k, (n + single * e + double * e * e) % k)
                self.assert_pair(map_along(line, n, (1, 1), (1 + e, 0), k), told, (line, n))

    def test_a_whole_number_of_ms_more_changes_nothing(self):
        for a, b, m in RISING_LINES:
            for n in (1, 2, BIG, BIGGEST):
                told = map_along((a, b, m), n, (3, 5), (7, 2), MOST_K)
                for by in (-2, -1, 1, 7, 10 ** 30):
                    self.assert_pair(map_along((a, b + by * m, m), n, (3, 5), (7, 2), MOST_K), told)


class Words(Case):

    def test_place_by_place(self):
        for line in lines_of_every_kind(7):
            for n in (0, 1, 2, 3, 7, 12, 40):
                told = word_along(line, n)
                self.assertIs(type(told), str)
                self.assertEqual(told, slow.word(line, n), (line, n))

    def test_up_to_five_hundred_signs(self):
        for line, n in (
            ((1, 0, 1), 250), ((3, 1, 2), 200), ((2, -5, 3), 300), ((99, 7, 2), 9), ((0, 3, 4), 500),
            ((249, 0, 1), 2), ((1, 0, 4), 400), ((34, -3, 55), 309),
        ):
            told = word_along(line, n)
            self.assertLessEqual(len(told), 500)
            self.assertGreater(len(told), 450)
            self.assertEqual(told, slow.word(line, n), (line, n))

    def test_somewhat_more_signs(self):
        for line, n in (((1, 0, 1), 251), ((0, 0, 1), 501), ((5, 3, 2), 300)):
            self.assertEqual(word_along(line, n), slow.word(line, n))

    def test_no_places_tell_the_empty_text(self):
        for line in RISING_LINES:
            self.assertEqual(word_along(line, 0), "")

    def test_great_lines(self):
        for a, b, m in RISING_LINES:
            if a > 4 * m:
                continue
            for n in (1, 2, 30, 100):
                parts = [(a * x + b) // m for x in range(n + 1)]
                told = "".join("r" + "u" * (parts[x + 1] - parts[x]) for x in range(n))
                self.assertEqual(word_along((a, b, m), n), told)

    def test_both_maps_done_letter_by_letter(self):
        chance = Random(20)
        for line in list(lines_of_every_kind(4)) + [line for line in RISING_LINES if line[0] <= 4 * line[2]]:
            for n in (0, 1, 4, 40):
                letters = word_along(line, n)
                for k in (1, 7, MOST_K):
                    for over, up in some_maps(chance, k, 1):
                        told = slow.map_of_word(letters, over, up, k)
                        self.assert_pair(map_along(line, n, over, up, k), told, (line, n, over, up, k))


class Refusals(Case):

    def test_no_line_comes_first(self):
        for n in (0, 1, 5, BIGGEST):
            self.assert_no_line(word_along, n)
            for over, up, k in (
                ((0, 0), (0, 0), 1), ((2, 1), (3, 4), 10), ((0, 0), (0, 0), 0), ((-1, 0), (0, 9), 5),
                ((2, 1), (3, 4), -7),
            ):
                self.assert_no_line(map_along, n, over, up, k)

    def test_no_map_of_a_k_below_one(self):
        for k in (0, -1, -2, -10 ** 12):
            for over, up in (((0, 0), (0, 0)), ((1, 0), (1, 0)), ((k, k), (k, k)), ((k - 1, 0), (0, k - 1))):
                for n in (0, 1, BIGGEST):
                    for line in ((3, 2, 5), (0, 0, 1), (-3, 2, 5), (-BIGGEST, 0, 1)):
                        self.assert_refused(NoMap, map_along, line, n, over, up, k)

    def test_no_map_of_a_number_that_is_not_such(self):
        for k in (1, 2, 10, MOST_K):
            for wrong in (-1, -k, -10 ** 12, k, k + 1, 2 * k, 10 ** 13):
                for right in (0, k - 1):
                    for at in range(4):
                        numbers = [right] * 4
                        numbers[at] = wrong
                        over, up = tuple(numbers[:2]), tuple(numbers[2:])
                        for n in (0, 1, BIGGEST):
                            # A line that never goes up asks for right maps, too.
                            for line in ((3, 2, 5), (0, 0, 1), (-3, 2, 5), (BIG, -BIGGEST, BIGGER)):
                                self.assert_refused(NoMap, map_along, line, n, over, up, k)

    def test_no_turn_of_however_many_places(self):
        for a in (-1, -2, -5, -BIG, -BIGGEST):
            for b, m in ((0, 1), (2, 5), (-BIG, BIGGER), (BIGGEST, BIGGEST)):
                for n in (0, 1, 2, 10 ** 9, BIG, BIGGEST):
                    self.assert_refused(NoTurn, word_along, (a, b, m), n)
                    self.assert_refused(NoTurn, map_along, (a, b, m), n, (0, 0), (0, 0), 1)
                    self.assert_refused(NoTurn, map_along, (a, b, m), n, (2, 1), (3, 4), 10)

    def test_the_greatest_numbers_of_a_map_are_such(self):
        for k in (1, 2, MOST_K):
            told = slow.map_of_word("rurrur", (k - 1, k - 1), (k - 1, k - 1), k)
            self.assert_pair(map_along((3, 2, 5), 4, (k - 1, k - 1), (k - 1, k - 1), k), told)


class Asking(Case):

    def test_asked_again_is_answered_the_same(self):
        for line in ((7, -3, 5), (BIG, -BIGGEST, BIGGER)):
            handed = (line, BIG, (2, 1), (3, 4), 10)
            self.assert_asked_again(map_along, ((1, 1, 0), BIG, (2, 1), (3, 4), 10), *handed)
            self.assert_asked_again(map_along, (line, BIG, (2, 1), (3, 10), 10), *handed)
            self.assert_asked_again(map_along, ((-1, 1, 1), BIG, (2, 1), (3, 4), 10), *handed)
            self.assert_asked_again(word_along, ((-1, 1, 1), 40), line, 40)


if __name__ == "__main__":
    unittest.main()
