"""Stage 1: lines, points [4], [5], [6], and [2] and [3] as far as they touch them."""

import unittest

import slow
from cases import Case
from slow import BIG, BIGGER, BIGGEST
from turnedline.errors import NoLine, NoText, NoTurn
from turnedline.lines import laid_off, line_shown, part_at, read_line, rest_at, turned
from turnedline.sums import sum_parts

PLACES = (0, 1, -1, 2, -2, 17, BIG, -BIG, BIGGEST, -BIGGEST)
NO_MS = (0, -1, -2, -7, -BIG, -BIGGEST)


class PartsAndRests(Case):

    def test_as_written_out(self):
        for line, place, part, rest in (
            ((0, 0, 1), 0, 0, 0),
            ((7, 3, 5), 0, 0, 3),
            ((7, 3, 5), 1, 2, 0),
            ((7, 3, 5), 4, 6, 1),
            ((7, 3, 5), -1, -1, 1),
            ((7, -3, 5), 0, -1, 2),
            ((-7, 0, 5), 1, -2, 3),
            ((-7, 0, 5), -1, 1, 2),
            ((-5, -5, 5), 3, -4, 0),
            ((4, 5, 5), 1, 1, 4),
            ((5, 4, 5), -1, -1, 4),
            ((3, -2, 1), -4, -14, 0),
        ):
            with self.subTest(line=line, place=place):
                self.assertEqual(part_at(line, place), part)
                self.assertEqual(rest_at(line, place), rest)

    def test_small_ones_against_the_definition(self):
        for line in slow.small_lines():
            for place in range(-4, 5):
                self.assertEqual(part_at(line, place), slow.part(line, place), (line, place))
                self.assertEqual(rest_at(line, place), slow.rest(line, place), (line, place))

    def test_part_and_rest_make_up_the_line(self):
        for line in slow.great_lines():
            a, b, m = line
            for place in PLACES:
                part = part_at(line, place)
                rest = rest_at(line, place)
                self.assert_whole(part, rest)
                self.assertEqual(m * part + rest, a * place + b, (line, place))
                self.assertTrue(0 <= rest < m, (line, place))

    def test_sixty_figures_as_written_out(self):
        self.assertEqual(part_at((BIGGEST, 0, 1), BIGGEST), BIGGEST * BIGGEST)
        self.assertEqual(part_at((1, 0, BIGGEST), -1), -1)
        self.assertEqual(rest_at((1, 0, BIGGEST), -1), BIGGEST - 1)
        self.assertEqual(part_at((BIGGEST, BIGGEST - 1, BIGGEST), -BIGGEST), -BIGGEST)
        self.assertEqual(rest_at((BIGGEST, BIGGEST - 1, BIGGEST), -BIGGEST), BIGGEST - 1)

    def test_somewhat_beyond_sixty_figures(self):
        great = 10 ** 70 + 1
        self.assertEqual(part_at((great, 1, great), great), great)
        self.assertEqual(rest_at((great, 1, great), -great), 1)


class NoLines(Case):

    def test_each_function_refuses(self):
        for m in NO_MS:
            for a, b in ((0, 0), (1, 2), (-1, -2), (BIG, -BIG), (m, m), (-m, -m)):
                line = (a, b, m)
                with self.subTest(line=line):
                    self.assert_refused(NoLine, laid_off, line)
                    self.assert_refused(NoLine, line_shown, line)
                    self.assert_refused(NoLine, read_line, f"{a} {b} {m}")
                    for place in PLACES:
                        self.assert_refused(NoLine, part_at, line, place)
                        self.assert_refused(NoLine, rest_at, line, place)
                    for n in (0, 1, BIGGEST):
                        self.assert_refused(NoLine, turned, line, n)

    def test_an_m_of_one_is_a_line(self):
        self.assertEqual(part_at((2, 3, 1), 4), 11)
        self.assertEqual(rest_at((2, 3, 1), 4), 0)
        self.assertEqual(laid_off((2, 3, 1)), (2, 3, (0, 0, 1)))
        self.assertEqual(turned((0, 0, 1), 4), (0, None))
        self.assertEqual(line_shown((2, 3, 1)), "2 3 1")
        self.assertEqual(read_line("2 3 1"), (2, 3, 1))


class LayingOff(Case):

    def test_as_written_out(self):
        for line, told in (
            ((0, 0, 1), (0, 0, (0, 0, 1))),
            ((3, 2, 5), (0, 0, (3, 2, 5))),
            ((4, 4, 5), (0, 0, (4, 4, 5))),
            ((5, 5, 5), (1, 1, (0, 0, 5))),
            ((13, 7, 5), (2, 1, (3, 2, 5))),
            ((7, 13, 5), (1, 2, (2, 3, 5))),
            ((-1, -13, 5), (-1, -3, (4, 2, 5))),
            ((-5, -6, 5), (-1, -2, (0, 4, 5))),
            ((-13, 0, 5), (-3, 0, (2, 0, 5))),
        ):
            with self.subTest(line=line):
                self.assertEqual(laid_off(line), told)

    def test_what_is_told_makes_up_the_line(self):
        for a, b, m in list(slow.small_lines(15)) + list(slow.great_lines()):
            told = laid_off((a, b, m))
            self.assertIs(type(told), tuple)
            q, r, line = told
            self.assert_whole(q, r)
            self.assert_line(line)
            self.assertEqual(q * m + line[0], a)
            self.assertEqual(r * m + line[1], b)
            self.assertEqual(line[2], m)
            self.assertTrue(0 <= line[0] < m and 0 <= line[1] < m, (a, b, m))


class Turning(Case):

    def test_as_written_out(self):
        for line, n, told in (
            ((3, 2, 5), 4, (2, (5, 4, 3))),
            ((3, 2, 5), 1, (1, (5, 0, 3))),
            ((3, 1, 5), 1, (0, None)),
            ((3, 4, 5), 0, (0, None)),
            ((4, 4, 5), 1, (1, (5, 3, 4))),
            ((1, 0, 5), 4, (0, None)),
            ((1, 0, 5), 5, (1, (5, 0, 1))),
            ((0, 4, 5), 1000, (0, None)),
            ((0, 0, 1), BIGGEST, (0, None)),
            ((1, 1, 2), BIGGEST, (5 * 10 ** 59, (2, 0, 1))),
            ((BIGGEST - 1, 0, BIGGEST), 2, (1, (BIGGEST, BIGGEST - 2, BIGGEST - 1))),
        ):
            with self.subTest(line=line, n=n):
                self.assertEqual(turned(line, n), told)

    def check_told(self, line, n):
        a, b, m = line
        told = turned(line, n)
        self.assertIs(type(told), tuple)
        k, new = told
        self.assert_whole(k)
        if a * n + b < m:
            self.assertEqual(told, (0, None))
            return
        self.assert_line(new)
        self.assertEqual((new[0], new[2]), (m, a))
        self.assertEqual(m * k + new[1], a * n + b)
        self.assertTrue(0 <= new[1] < m)

    def test_small_ones(self):
        for m in range(1, 8):
            for a in range(m):
                for b in range(m):
                    for n in (0, 1, 2, 3, 10, 11, BIG):
                        self.check_told((a, b, m), n)

    def test_great_ones(self):
        for m in (BIG, BIGGER, BIGGEST):
            for a in (0, 1, m // 2, m - 1):
                for b in (0, 1, m // 2, m - 1):
                    for n in (0, 1, 2, BIG, BIGGER, BIGGEST):
                        self.check_told((a, b, m), n)

    def test_the_new_line_has_the_same_sum(self):
        for m in range(1, 8):
            for a in range(m):
                for b in range(m):
                    for n in range(12):
                        k, new = turned((a, b, m), n)
                        old_sum = slow.sum_of_parts((a, b, m), range(n))
                        new_sum = 0 if new is None else slow.sum_of_parts(new, range(k))
                        self.assertEqual(new_sum, old_sum, ((a, b, m), n))

    def test_the_new_line_of_a_great_one_has_the_same_sum(self):
        for line in ((BIG, BIGGER // 3, BIGGER), (BIGGEST - 1, BIGGEST - 1, BIGGEST), (1, 0, BIG)):
            for n in (BIG, BIGGER, BIGGEST):
                k, new = turned(line, n)
                self.assertEqual(sum_parts(new, k), sum_parts(line, n))

    def test_no_turn(self):
        for m in (1, 2, 5, BIG, BIGGEST):
            for wrong in (m, m + 1, 2 * m, -1, -m, -m - 1, BIGGEST + 1):
                for right in (0, m - 1):
                    for n in (0, 1, 2, BIGGEST):
                        self.assert_refused(NoTurn, turned, (wrong, right, m), n)
                        self.assert_refused(NoTurn, turned, (right, wrong, m), n)
                        self.assert_refused(NoTurn, turned, (wrong, wrong, m), n)

    def test_no_line_comes_ahead_of_no_turn(self):
        for m in NO_MS:
            for a, b in ((0, 0), (-1, 0), (0, -1), (m, 0), (5, 5), (m - 1, m - 1), (BIG, BIG)):
                self.assert_refused(NoLine, turned, (a, b, m), 3)


class Texts(Case):

    def test_as_written_out(self):
        for line, text in (
            ((0, 0, 1), "0 0 1"),
            ((1, 2, 3), "1 2 3"),
            ((-1, 20, 300), "-1 20 300"),
            ((10, -205, 7), "10 -205 7"),
            ((-BIG, BIGGEST, BIGGER), f"-1{57 * '0'}39 {60 * '9'} {BIGGER}"),
        ):
            with self.subTest(text=text):
                self.assertEqual(line_shown(line), text)
                self.assertEqual(read_line(text), line)

    def test_there_and_back(self):
        for line in list(slow.small_lines(12)) + list(slow.great_lines()):
            text = line_shown(line)
            self.assertIs(type(text), str)
            back = read_line(text)
            self.assert_line(back)
            self.assertEqual(back, line)

    def test_no_texts(self):
        for text in (
            "", " ", "  ", "   ", "\n", "-", "1", "1 2", "1 2 ", " 1 2", "1 2 3 4", "1 2 3 4 5",
            "1  2 3", "1 2  3", "1   3", " 1 2 3", "1 2 3 ", "  1 2 3", "1 2 3  ", "1 2 3\n",
            "\n1 2 3", "1\n2\n3", "1 2\n3", "1\n2 3", "1 \n2 3", "1 2 3\n\n", "1 2 3\n4 5 6",
            "01 2 3", "1 02 3", "1 2 03", "00 2 3", "1 00 3", "-01 2 3", "1 -02 3", "1 2 -03",
            "-0 2 3", "1 -0 3", "1 2 -0", "-00 2 3", "+1 2 3", "1 +2 3", "1 2 +3", "+0 2 3",
            "--1 2 3", "1 --2 3", "1 2 --3", "- 2 3", "1 - 3", "1 2 -", "-- 2 3", "1- 2 3",
            "1 2- 3", "1 2 3-", "- 1 2 3", "1 - 2 3", "-+1 2 3", "+-1 2 3", "1-1 2 3",
            "a 2 3", "1 b 3", "1 2 c", "1a 2 3", "1 2b 3", "1 2 3c", "a1 2 3", "x", "one two three",
            "0x1 2 3", "1e2 2 3", "1 2 1e3", "1_0 2 3", "1 2 1_0", "1,2,3", "1, 2, 3", "(1, 2, 3)",
            "1.0 2 3", "1 2 3.", "1 2 .3", "1 2 3;", "1;2;3", "1 2 ~", "! 2 3", "1 2 3/1", "1 *2 3",
            "1\t2\t3", "1 2\t3", "1 2 3\t", "1 2 3\r", "None 2 3", "True 2 3", "1 2 =3", "1 2 '3'",
        ):
            with self.subTest(text=text):
                self.assert_refused(NoText, read_line, text)

    def test_no_sign_but_a_figure_or_a_minus_makes_a_number(self):
        for code in [10] + list(range(32, 127)):
            sign = chr(code)
            if sign in "0123456789":
                continue
            with self.subTest(sign=sign):
                for number in (sign, "1" + sign, "1" + sign + "1", sign + sign + "1"):
                    self.assert_refused(NoText, read_line, number + " 2 3")
                    self.assert_refused(NoText, read_line, "1 " + number + " 3")
                    self.assert_refused(NoText, read_line, "1 2 " + number)
                if sign != "-":
                    self.assert_refused(NoText, read_line, sign + "1 2 3")

    def test_figures_of_other_scripts_make_no_number(self):
        for sign in ("\u00b2", "\u0663", "\uff11"):
            self.assert_refused(NoText, read_line, sign + " 2 3")

    def test_no_text_of_more_figures(self):
        many = 100 * "9"
        for text in (
            many, f"{many} {many}", f"{many} {many} {many} 1", f"{many} x 3", f"0{many} 2 3",
            f"{many}  2 3", f" {many} 2 3", f"{many} 2 3 ", f"{many}- 2 3", f"1 2 -0{many}",
            398 * "1" + " 2", 61 * "0" + " 2 3", f"{many} 2 3\n",
        ):
            with self.subTest(text=text):
                self.assert_refused(NoText, read_line, text)

    def test_no_text_comes_ahead_of_no_line(self):
        for text in (
            "1 2 -0", "1 02 0", "01 2 -3", "1  2 0", " 1 2 0", "1 2 0 ", "1 2 0\n", "1 2 00",
            "x 2 0", "1 x -3", "+1 2 0", "1 2 0 0", "2 0", "1 2 -03", "0", "-3",
        ):
            with self.subTest(text=text):
                self.assert_refused(NoText, read_line, text)

    def test_no_line(self):
        for text in ("1 2 0", "1 2 -3", "0 0 0", "-1 -2 -1", f"1 2 -{BIGGEST}", f"{BIG} -{BIG} 0"):
            with self.subTest(text=text):
                self.assert_refused(NoLine, read_line, text)


class Asking(Case):

    def test_asked_again_is_answered_the_same(self):
        for line in ((7, -3, 5), (2, 3, 5), (BIG, -BIGGEST, BIGGER)):
            handed = tuple(line)
            for _ in range(2):
                for action, more in ((part_at, (9,)), (rest_at, (9,)), (laid_off, ()), (line_shown, ())):
                    first = action(line, *more)
                    self.assertEqual(action(line, *more), first)
                    self.assertEqual(line, handed)
        self.assertEqual(turned((2, 3, 5), 9), turned((2, 3, 5), 9))
        self.assertEqual(read_line("2 3 5"), read_line("2 3 5"))

    def test_a_refusal_changes_nothing(self):
        before = part_at((7, -3, 5), 2)
        for _ in range(2):
            self.assert_refused(NoLine, part_at, (7, -3, 0), 2)
            self.assert_refused(NoText, read_line, "7 -3")
            self.assertEqual(part_at((7, -3, 5), 2), before)


if __name__ == "__main__":
    unittest.main()
