"""Stage 8: the desk, point [18], and [2], [3], [4] and [6] as far as they touch it."""

import re
import unittest
from itertools import product

import slow
from cases import Case
from slow import BIG, BIGGER, BIGGEST
from turnedline.errors import LineError, NoAsk, NoLine, NoPlace, NoStretch
from turnedline.lines import line_shown, part_at, rest_at
from turnedline.papers import sum_paper
from turnedline.points import points_between
from turnedline.rests import first_within, in_order, rests_beneath
from turnedline.squares import sum_placed, sum_squares
from turnedline.sums import sum_between, sum_parts, sum_rests
from turnedline.whole import Desk

LINES = (
    (7, -3, 5), (3, 2, 5), (0, 0, 1), (-8, 13, 21), (4, 1, 6), (BIG, -BIGGEST, BIGGER),
    (-BIGGEST, BIGGEST, BIG), (BIGGEST, BIGGEST, 1),
)
COUNTS = (0, 1, 2, 9, BIG, BIGGEST)
PLACES = (0, 1, -1, 17, BIG, -BIGGEST)
WORDS = (
    "line", "part", "rest", "sum", "rests", "squares", "placed", "between", "beneath", "within", "order",
    "points", "paper",
)
# One right line of each kind for a desk that has the names used here, with (3, 2, 5) under ab.
RIGHT = (
    "line ab 3 2 5", "part ab 4", "rest ab 4", "sum ab 4", "rests ab 4", "squares ab 4", "placed ab 4",
    "between ab -2 2", "beneath ab 4 2", "within ab 3 4", "order ab 7 4", "points 0 4 ab ; cd",
    "points -3 4 ab cd ; cd ab cd", "paper ab 4",
)
NUMBER = "(0|-?[1-9][0-9]{0,59})"
COUNT = "(0|[1-9][0-9]{0,59})"
NAME = "(ab|cd|abcdefgh)"
RIGHT_LINE = "|".join((
    f"line [a-z]{{1,8}} {NUMBER} {NUMBER} {NUMBER}", f"(part|rest) {NAME} {NUMBER}",
    f"(sum|rests|squares|placed|paper) {NAME} {COUNT}", f"(between|within) {NAME} {NUMBER} {NUMBER}",
    f"(beneath|order) {NAME} {COUNT} {NUMBER}",
    f"points {NUMBER} {NUMBER} {NAME}( {NAME}){{0,3}} ; {NAME}( {NAME}){{0,3}}",
))
NO_NUMBERS = (
    "", "-", "--1", "+1", "+0", "-0", "00", "01", "-01", "1-", "1.0", "1e2", "1_0", "0x1", "x", "ab", ";",
    "1,", "1;", "-+1", "1\n", "\n1", "1\t", "1\n2", "\u0663", "\u00b2", "0" + 60 * "1", "1" + 60 * "0",
    "-1" + 60 * "0", 61 * "9", 100 * "1", "-" + 100 * "1", 61 * "0",
)
NO_NAMES = (
    "", "A", "Ab", "aB", "a1", "1", "0", "a-b", "a_b", "-", ";", "a;", "abcdefghi", "abcdefghij", 30 * "a",
    "a\n", "\na", "a\nb", "a\t", "\u00e4", "\u03b1", "a.", "a,b", "~", "`", "{", "@", "[",
)


def desk_of(**lines):
    desk = Desk()
    for name, line in lines.items():
        desk.ask(f"line {name} {line_shown(line)}")
    return desk


def usual_desk():
    return desk_of(ab=(3, 2, 5), cd=(0, 0, 1), abcdefgh=(BIG, -BIGGEST, BIGGER))


def all_told(desk):
    """What the desk tells of all that the tests keep in it."""
    asked = RIGHT[1:] + ("paper abcdefgh 9", "part abcdefgh 0", "part abcdefgh 1", "part cd 1")
    return [desk.ask(line) for line in asked]


class DeskCase(Case):

    def assert_rows(self, desk, line, rows):
        told = desk.ask(line)
        self.assertIs(type(told), list, line)
        for row in told:
            self.assertIs(type(row), str, line)
        self.assertEqual(told, rows, line)

    def assert_no_ask(self, desk, line):
        self.assert_refused(NoAsk, desk.ask, line)


class AsWrittenOut(DeskCase):

    def test_a_line_of_each_kind(self):
        desk = usual_desk()
        for line, rows in (
            ("line ab 3 2 5", []),
            ("part ab 4", ["2"]),
            ("part ab -4", ["-2"]),
            ("rest ab 4", ["4"]),
            ("rest ab -4", ["0"]),
            ("sum ab 4", ["4"]),
            ("sum ab 0", ["0"]),
            ("rests ab 4", ["6"]),
            ("squares ab 4", ["6"]),
            ("placed ab 4", ["9"]),
            ("between ab -2 2", ["-1"]),
            ("between ab 7 7", ["0"]),
            ("beneath ab 4 2", ["2"]),
            ("beneath ab 4 -2", ["0"]),
            ("within ab 3 4", ["2"]),
            ("within ab 2 2", ["0"]),
            ("order ab 7 4", ["2 5"]),
            ("points 0 4 ab ; cd", ["8"]),
            ("points -3 4 ab ; cd", ["8"]),
            ("paper ab 4", ["4 3 2 5 4", "2 5 4 3 4", "1 3 2 2 1"]),
            ("paper ab 0", ["0 3 2 5 0"]),
        ):
            self.assert_rows(desk, line, rows)

    def test_within_with_no_place_tells_no_row(self):
        desk = desk_of(ab=(4, 1, 6), cd=(0, 3, 7))
        self.assert_rows(desk, "within ab 0 0", [])
        self.assert_rows(desk, "within ab 2 2", [])
        self.assert_rows(desk, "within cd 4 6", [])
        self.assert_rows(desk, "within cd 3 6", ["0"])

    def test_a_line_takes_the_place_of_one_of_that_name(self):
        desk = Desk()
        for line, told in (("3 2 5", "2"), ("-3 2 5", "-2"), ("0 0 1", "0"), ("3 2 5", "2")):
            self.assert_rows(desk, f"line ab {line}", [])
            self.assert_rows(desk, "part ab 4", [told])

    def test_a_line_of_another_name_takes_no_place(self):
        desk = desk_of(ab=(3, 2, 5))
        for name in ("a", "b", "ba", "abc", "abab"):
            self.assert_rows(desk, f"line {name} 0 9 1", [])
            self.assert_rows(desk, "part ab 4", ["2"])
            self.assert_rows(desk, f"part {name} 4", ["9"])


class AgainstTheParts(DeskCase):

    def test_places(self):
        for line in LINES:
            desk = desk_of(ab=line)
            for x in PLACES:
                self.assert_rows(desk, f"part ab {x}", [str(part_at(line, x))])
                self.assert_rows(desk, f"rest ab {x}", [str(rest_at(line, x))])

    def test_sums(self):
        for line in LINES:
            desk = desk_of(ab=line)
            for n in COUNTS:
                self.assert_rows(desk, f"sum ab {n}", [str(sum_parts(line, n))])
                self.assert_rows(desk, f"rests ab {n}", [str(sum_rests(line, n))])
                self.assert_rows(desk, f"squares ab {n}", [str(sum_squares(line, n))])
                self.assert_rows(desk, f"placed ab {n}", [str(sum_placed(line, n))])

    def test_small_sums_place_by_place(self):
        for line in slow.small_lines(3, 4):
            desk = desk_of(ab=line)
            for n in (0, 1, 6):
                parts = [slow.part(line, x) for x in range(n)]
                squares, placed, _, _ = slow.four_sums(parts, parts)
                self.assert_rows(desk, f"sum ab {n}", [str(sum(parts))])
                self.assert_rows(desk, f"rests ab {n}", [str(slow.sum_of_rests(line, range(n)))])
                self.assert_rows(desk, f"squares ab {n}", [str(squares)])
                self.assert_rows(desk, f"placed ab {n}", [str(placed)])

    def test_stretches(self):
        for line in LINES:
            desk = desk_of(ab=line)
            for low, high in product(PLACES, PLACES):
                if low <= high:
                    self.assert_rows(desk, f"between ab {low} {high}", [str(sum_between(line, low, high))])

    def test_rests(self):
        for line in LINES:
            m = line[2]
            desk = desk_of(ab=line)
            for n in COUNTS:
                for bound in (-BIGGEST, -1, 0, 1, m // 2, m - 1, m, BIGGEST):
                    self.assert_rows(desk, f"beneath ab {n} {bound}", [str(rests_beneath(line, n, bound))])
                for number in sorted({0, n // 2, n - 1}):
                    if 0 <= number < n:
                        rest, place = in_order(line, n, number)
                        self.assert_rows(desk, f"order ab {n} {number}", [f"{rest} {place}"])
            for low, high in ((0, 0), (0, m - 1), (m - 1, m - 1), (m // 3, m // 2)):
                place = first_within(line, low, high)
                rows = [] if place is None else [str(place)]
                self.assert_rows(desk, f"within ab {low} {high}", rows)

    def test_points(self):
        names = ("a", "bb", "line", "points", "e", "ff", "paper", "abcdefgh")
        lines = (
            (2, 9, 2), (-3, 14, 2), (0, 5, 1), (1, 20, 4), (-2, -9, 3), (3, -14, 2), (1, -20, 4), (0, -11, 2),
        )
        desk = desk_of(**dict(zip(names, lines)))
        for many_above, many_beneath in product(range(1, 5), range(1, 5)):
            above, beneath = slice(0, many_above), slice(4, 4 + many_beneath)
            for low, high in ((-9, 10), (0, 0), (-BIGGEST, BIGGEST), (3, 4)):
                told = points_between(lines[above], lines[beneath], low, high)
                asked = f"points {low} {high} {' '.join(names[above])} ; {' '.join(names[beneath])}"
                self.assert_rows(desk, asked, [str(told)])

    def test_points_of_a_name_more_than_once(self):
        desk = usual_desk()
        told = points_between(((3, 2, 5),) * 4, ((3, 2, 5),) * 4, -9, 10)
        self.assert_rows(desk, "points -9 10 ab ; ab", [str(told)])
        self.assert_rows(desk, "points -9 10 ab ab ab ab ; ab ab ab ab", [str(told)])

    def test_the_lines_above_come_first(self):
        desk = desk_of(low=(0, 0, 1), high=(0, 4, 1))
        self.assert_rows(desk, "points 0 2 high ; low", ["10"])
        self.assert_rows(desk, "points 0 2 low ; high", ["0"])

    def test_papers(self):
        for line in LINES + (slow.golden_pair() + (1,), (slow.golden_pair()[0], -7, slow.golden_pair()[1])):
            desk = desk_of(ab=line)
            for n in COUNTS:
                rows = [f"{k} {a} {b} {m} {total}" for k, (a, b, m), total in sum_paper(line, n)]
                self.assert_rows(desk, f"paper ab {n}", rows)

    def test_numbers_told_of_more_than_sixty_figures(self):
        desk = desk_of(ab=(BIGGEST, -BIGGEST, 1), cd=(-BIGGEST, 0, 1))
        self.assert_rows(desk, f"part ab {BIGGEST}", [str(BIGGEST * (BIGGEST - 1))])
        self.assert_rows(desk, f"part cd {BIGGEST}", ["-" + str(BIGGEST * BIGGEST)])
        told = desk.ask(f"squares ab {BIGGEST}")
        self.assertEqual(told, [str(sum_squares((BIGGEST, -BIGGEST, 1), BIGGEST))])
        self.assertGreater(len(told[0]), 290)
        self.assertRegex(desk.ask(f"sum cd {BIGGEST}")[0], r"\A-[1-9][0-9]{170,}\Z")
        for row in desk.ask(f"paper cd {BIGGEST}"):
            self.assertRegex(row, r"\A(0|-?[1-9][0-9]*)( (0|-?[1-9][0-9]*)){4}\Z")


class NamesAndNumbers(DeskCase):

    def test_names(self):
        for name in WORDS + ("a", "z", "az", "abcdefgh", "zzzzzzzz", "qrstuvwx", "ijklmnop"):
            desk = Desk()
            self.assert_no_ask(desk, f"part {name} 4")
            self.assert_rows(desk, f"line {name} 3 2 5", [])
            self.assert_rows(desk, f"part {name} 4", ["2"])
            self.assert_rows(desk, f"order {name} 7 4", ["2 5"])
            self.assert_rows(desk, f"points 0 5 {name} ; {name}", ["1"])

    def test_all_words_as_names_in_one_desk(self):
        desk = Desk()
        for number, name in enumerate(WORDS):
            desk.ask(f"line {name} 0 {number} 1")
        for number, name in enumerate(WORDS):
            self.assert_rows(desk, f"part {name} 0", [str(number)])

    def test_sixty_figures_are_read(self):
        desk = Desk()
        for a, b in product((BIGGEST, -BIGGEST), (BIGGEST, -BIGGEST)):
            desk.ask(f"line ab {a} {b} {BIGGEST}")
            for x in (BIGGEST, -BIGGEST):
                self.assert_rows(desk, f"part ab {x}", [str(part_at((a, b, BIGGEST), x))])

    def test_noughts_are_read(self):
        desk = Desk()
        self.assert_rows(desk, "line ab 0 0 1", [])
        self.assert_rows(desk, "sum ab 0", ["0"])
        self.assert_rows(desk, "between ab 0 0", ["0"])
        self.assert_rows(desk, "within ab 0 0", ["0"])
        self.assert_rows(desk, "points 0 0 ab ; ab", ["0"])

    def test_no_numbers(self):
        for line in RIGHT:
            words = line.split(" ")
            for at, word in enumerate(words):
                if not word.removeprefix("-").isdigit():
                    continue
                for wrong in NO_NUMBERS:
                    desk = usual_desk()
                    self.assert_no_ask(desk, " ".join(words[:at] + [wrong] + words[at + 1:]))

    def test_counts_below_nought(self):
        desk = usual_desk()
        for word in ("sum", "rests", "squares", "placed", "paper"):
            for n in (-1, -2, -BIGGEST):
                self.assert_no_ask(desk, f"{word} ab {n}")
        for n in (-1, -2, -BIGGEST):
            self.assert_no_ask(desk, f"beneath ab {n} 2")
            # Ahead of what in_order itself would refuse.
            for number in (-1, 0, 3):
                self.assert_no_ask(desk, f"order ab {n} {number}")

    def test_no_names(self):
        for line in RIGHT:
            words = line.split(" ")
            for at, word in enumerate(words):
                if word not in ("ab", "cd"):
                    continue
                for wrong in NO_NAMES:
                    self.assert_no_ask(usual_desk(), " ".join(words[:at] + [wrong] + words[at + 1:]))

    def test_names_that_are_not_there(self):
        for line in RIGHT[1:]:
            self.assert_no_ask(Desk(), line)
            words = line.split(" ")
            for at, word in enumerate(words):
                if word in ("ab", "cd"):
                    for other in ("a", "b", "abc", "dc", "abcdefg", words[0]):
                        self.assert_no_ask(usual_desk(), " ".join(words[:at] + [other] + words[at + 1:]))


class OtherLines(DeskCase):

    def test_words_lacking_or_too_many(self):
        desk = usual_desk()
        for line in RIGHT:
            words = line.split(" ")
            many = len(words)
            # A name behind the semicolon may be lacking, if another one is there.
            least = words.index(";") + 2 if ";" in words else many
            for end in range(least):
                self.assert_no_ask(desk, " ".join(words[:end]))
            if words[0] != "points":
                for at in range(many):
                    self.assert_no_ask(desk, " ".join(words[:at] + words[at + 1:]))
                for at in range(many + 1):
                    for more in ("ab", "1", ";", "-1", "line"):
                        self.assert_no_ask(desk, " ".join(words[:at] + [more] + words[at:]))
            self.assert_no_ask(desk, line + " 1")
            self.assert_no_ask(desk, "1 " + line)
            self.assert_no_ask(desk, line + " " + line)

    def test_blanks(self):
        desk = usual_desk()
        for line in RIGHT:
            self.assert_no_ask(desk, " " + line)
            self.assert_no_ask(desk, line + " ")
            self.assert_no_ask(desk, "  " + line + "  ")
            for at, sign in enumerate(line):
                if sign == " ":
                    self.assert_no_ask(desk, line[:at] + " " + line[at:])
                    self.assert_no_ask(desk, line[:at] + line[at + 1:])
                    self.assert_no_ask(desk, line[:at] + "\t" + line[at + 1:])

    def test_a_line_end_anywhere(self):
        desk = usual_desk()
        for line in RIGHT:
            for at in range(len(line) + 1):
                self.assert_no_ask(desk, line[:at] + "\n" + line[at:])
                self.assert_no_ask(desk, line[:at] + "\n" + line[at + 1:])
            self.assert_no_ask(desk, line + "\n" + line)
            self.assert_no_ask(desk, line + "\n\n")
            self.assert_no_ask(desk, line + " \n")

    def test_other_words(self):
        desk = usual_desk()
        for word in (
            "", "x", "Part", "PART", "parts", "par", "sums", "square", "rest_squares", "map", "word", "lines",
            "ends", "show", "ab", "1", ";", "part;", "-", "laid", "turned", "point", "papers", "~",
        ):
            for more in ("", " ab", " ab 4", " ab 4 4", " ab 3 2 5", " 0 4 ab ; cd"):
                self.assert_no_ask(desk, word + more)
        for line in ("", " ", "  ", "\n", "\n\n", "-", ";", "ab", "4", "part ab 4;", "part ab 4 ;", "; part ab 4"):
            self.assert_no_ask(desk, line)

    def check_as_written(self, line):
        """A line is answered, or refused as the parts refuse, just where it is written as told."""
        try:
            told = usual_desk().ask(line)
        except LineError as refusal:
            self.assertEqual(type(refusal) is not NoAsk, re.fullmatch(RIGHT_LINE, line) is not None, line)
        else:
            self.assertIs(type(told), list, line)
            self.assertRegex(line, rf"\A({RIGHT_LINE})\Z")

    def test_any_sign_more_less_or_in_the_place_of_one(self):
        signs = [chr(code) for code in [10] + list(range(32, 127))]
        for line in RIGHT:
            for at in range(len(line) + 1):
                self.check_as_written(line[:at] + line[at + 1:])
                for sign in signs:
                    self.check_as_written(line[:at] + sign + line[at:])
                    self.check_as_written(line[:at] + sign + line[at + 1:])

    def test_points(self):
        desk = usual_desk()
        for line in (
            "points", "points 0", "points 0 4", "points 0 4 ;", "points 0 4 ab", "points 0 4 ab cd",
            "points 0 4 ab ;", "points 0 4 ; cd", "points 0 4 ; ;", "points 0 4 ab ; ; cd",
            "points 0 4 ab ; cd ;", "points 0 4 ; ab ; cd", "points 0 4 ab ; cd ; ab", "points 0 4 ab;cd",
            "points 0 4 ab; cd", "points 0 4 ab ;cd", "points 0 4 ab ;; cd", "points 0 4 ab , cd",
            "points 0 4 ab : cd", "points 0 ; 4 ab cd", "points ; 0 4 ab cd", "points 0 ab ; cd",
            "points ab ; cd", "points ab ; cd 0 4", "points ab 0 4 ; cd", "points 0 4 4 ab ; cd",
            "points ; 4 ab ; cd", "points 0 ; ab ; cd",
        ):
            self.assert_no_ask(desk, line)

    def test_too_many_names_on_a_side(self):
        desk = usual_desk()
        for many in (5, 6, 9, 20):
            names = " ".join(many * ["ab"])
            self.assert_no_ask(desk, f"points 0 4 {names} ; cd")
            self.assert_no_ask(desk, f"points 0 4 cd ; {names}")
            self.assert_no_ask(desk, f"points 0 4 {names} ; {names}")


class AsThePartsRefuse(DeskCase):

    def test_no_line(self):
        desk = usual_desk()
        for name in ("ab", "new", "line"):
            for m in ("0", "-1", "-5", str(-BIGGEST)):
                for a, b in (("0", "0"), ("3", "2"), (str(-BIG), str(BIGGEST))):
                    self.assert_refused(NoLine, desk.ask, f"line {name} {a} {b} {m}")

    def test_no_stretch(self):
        desk = usual_desk()
        for low, high in ((1, 0), (0, -1), (BIGGEST, -BIGGEST)):
            self.assert_refused(NoStretch, desk.ask, f"between ab {low} {high}")
            self.assert_refused(NoStretch, desk.ask, f"points {low} {high} ab ; cd")
            self.assert_refused(NoStretch, desk.ask, f"points {low} {high} ab ab ab ab ; cd ab cd ab")
        for low, high in ((-1, 0), (0, 5), (3, 2), (5, 5), (-1, 5), (0, BIGGEST), (-BIGGEST, 3)):
            self.assert_refused(NoStretch, desk.ask, f"within ab {low} {high}")

    def test_no_place(self):
        desk = usual_desk()
        for n, number in ((0, 0), (0, -1), (0, 1), (1, 1), (7, 7), (7, -1), (7, BIGGEST), (BIGGEST, -BIGGEST)):
            self.assert_refused(NoPlace, desk.ask, f"order ab {n} {number}")

    def test_no_ask_comes_first(self):
        desk = usual_desk()
        for line in (
            "line AB 3 2 0", "line ab 3 2 -0", "line ab 03 2 0", "line ab 3 2 0 ", "line ab 3 2 0 0",
            "line ab 3 2 0\n", f"line ab 1{BIGGEST} 2 0", "line abcdefghi 3 2 0", "line ab  3 2 0",
            "between xy 1 0", "between ab 1 00", "between ab 1 0 0", "between AB 1 0", " between ab 1 0",
            "within xy 3 2", "within ab 03 2", "within ab -1 0 ", "within ab -0 9",
            "order xy 0 0", "order ab 0 -0", "order ab -1 0", "order ab 0 0 0", "order ab 7 07",
            "points 1 0 ab ; xy", "points 1 0 xy ; ab", "points 1 0 ab", "points 1 0 ab ; ", "points 1 -0 ab ; cd",
            "points 1 0 ab ab ab ab ab ; cd", "points 1 0 ab ; cd ;", "points 1 0 ab ; cd\n",
        ):
            self.assert_no_ask(desk, line)


class Keeping(DeskCase):

    def test_what_is_refused_changes_nothing(self):
        desk = usual_desk()
        before = all_told(desk)
        for line in (
            "line ab 1 1 0", "line ab 1 1 -1", "line cd 9 9 0", "line ab 1 1", "line ab 1 1 1 1", "line ab 1 1 1 ",
            "line ab 1 1 01", "line ab -0 1 1", "line ab 1 1 1\n", "line  ab 1 1 1", " line ab 1 1 1",
            f"line ab 1 1 1{BIGGEST}", "lines ab 1 1 1", "LINE ab 1 1 1", "line ab 1 x 1", "line ab 1 1 1\nline cd 1 1 1",
            "between ab 1 0", "within ab 3 2", "order ab 0 0", "points 1 0 ab ; cd", "part xy 1", "sum ab -1",
        ):
            with self.assertRaises(LineError):
                desk.ask(line)
            self.assertEqual(all_told(desk), before, line)

    def test_a_name_that_was_refused_is_not_there(self):
        desk = Desk()
        for line in ("line xy 1 1 0", "line xy 1 1", "line xy 1 1 1 ", "line xy 1 1 1\n", "line xy 01 1 1"):
            with self.assertRaises(LineError):
                desk.ask(line)
            self.assert_no_ask(desk, "part xy 1")

    def test_two_desks_share_nothing(self):
        one, other = Desk(), Desk()
        one.ask("line ab 3 2 5")
        self.assert_no_ask(other, "part ab 4")
        other.ask("line ab 0 9 1")
        other.ask("line cd 0 8 1")
        self.assert_rows(one, "part ab 4", ["2"])
        self.assert_rows(other, "part ab 4", ["9"])
        self.assert_no_ask(one, "part cd 4")
        self.assert_no_ask(Desk(), "part ab 4")

    def test_a_told_list_changed_by_the_asker(self):
        desk = usual_desk()
        before = all_told(usual_desk())
        for line in RIGHT:
            told = desk.ask(line)
            told.append("more")
            told[0] = "other"
            told.clear()
            self.assertIsNot(desk.ask(line), told)
        self.assertEqual(all_told(desk), before)

    def test_a_told_list_stays_as_it_is(self):
        desk = usual_desk()
        told = all_told(desk)
        before = repr(told)
        desk.ask("line ab 9 9 7")
        desk.ask("line cd 1 1 1")
        all_told(desk)
        self.assertEqual(repr(told), before)

    def test_asked_again_is_answered_the_same(self):
        desk = usual_desk()
        before = all_told(desk)
        for turn in range(3):
            self.assertEqual(all_told(desk), before)
        for line in RIGHT:
            self.assert_asked_again(desk.ask, ("part xy 1",), line)
            self.assert_asked_again(desk.ask, ("between ab 1 0",), line)

    def test_many_lines(self):
        desk = Desk()
        names = ["".join(letters) for letters in product("abcxyz", repeat=3)]
        for number, name in enumerate(names):
            desk.ask(f"line {name} 1 {number} 1")
        for number, name in enumerate(names):
            self.assert_rows(desk, f"part {name} 1", [str(number + 1)])


if __name__ == "__main__":
    unittest.main()
