"""The desk: it keeps lines under names and answers lines of text about them."""

from turnedline.errors import NoAsk
from turnedline.lines import check_line, is_number, part_at, rest_at
from turnedline.papers import sum_paper
from turnedline.points import points_between
from turnedline.rests import first_within, in_order, rests_beneath
from turnedline.squares import sum_placed, sum_squares
from turnedline.sums import sum_between, sum_parts, sum_rests

MOST_FIGURES = 60
MOST_LETTERS = 8
MOST_NAMES = 4


# Each of these tells the rows of numbers that answer one word, of a line and the numbers behind
# its name. They are functions of this file since a table at module level holds no others.


def part_rows(line, numbers):
    return [(part_at(line, numbers[0]),)]


def rest_rows(line, numbers):
    return [(rest_at(line, numbers[0]),)]


def sum_rows(line, numbers):
    return [(sum_parts(line, numbers[0]),)]


def rests_rows(line, numbers):
    return [(sum_rests(line, numbers[0]),)]


def squares_rows(line, numbers):
    return [(sum_squares(line, numbers[0]),)]


def placed_rows(line, numbers):
    return [(sum_placed(line, numbers[0]),)]


def between_rows(line, numbers):
    return [(sum_between(line, numbers[0], numbers[1]),)]


def beneath_rows(line, numbers):
    return [(rests_beneath(line, numbers[0], numbers[1]),)]


def within_rows(line, numbers):
    place = first_within(line, numbers[0], numbers[1])
    if place is None:
        return []
    return [(place,)]


def order_rows(line, numbers):
    return [in_order(line, numbers[0], numbers[1])]


def paper_rows(line, numbers):
    return [(n, a, b, m, total) for n, (a, b, m), total in sum_paper(line, numbers[0])]


# What stands behind the name, a letter for each word: N is a count, X any whole number.
FORMS = {
    "part": "X",
    "rest": "X",
    "sum": "N",
    "rests": "N",
    "squares": "N",
    "placed": "N",
    "between": "XX",
    "beneath": "NX",
    "within": "XX",
    "order": "NX",
    "paper": "N",
}

ANSWERS = {
    "part": part_rows,
    "rest": rest_rows,
    "sum": sum_rows,
    "rests": rests_rows,
    "squares": squares_rows,
    "placed": placed_rows,
    "between": between_rows,
    "beneath": beneath_rows,
    "within": within_rows,
    "order": order_rows,
    "paper": paper_rows,
}


def check_name(word):
    """Refuse with NoAsk a word that is not one to eight small letters, a to z."""
    # Empty words and letters of other scripts are none, either.
    letters = word.isascii() and word.isalpha() and word.islower()
    if not letters or len(word) > MOST_LETTERS:
        raise NoAsk("a name is one to eight small letters")


def read_number(word):
    """Tell the whole number that a word writes, or refuse it with NoAsk."""
    if not is_number(word) or len(word.removeprefix("-")) > MOST_FIGURES:
        raise NoAsk("a number is at most 60 figures, with no nought ahead")
    return int(word)


def read_count(word):
    """Tell the count that a word writes, or refuse it with NoAsk."""
    count = read_number(word)
    if count < 0:
        raise NoAsk("a count is from 0 on")
    return count


def read_numbers(words, form):
    """Tell the numbers of words that are to be of a form, or refuse them with NoAsk."""
    if len(words) != len(form):
        raise NoAsk("there are words too many, or some are lacking")
    return [read_count(word) if kind == "N" else read_number(word) for word, kind in zip(words, form)]


def parted_names(words):
    """Tell the names ahead of the one semicolon and those behind it, or refuse with NoAsk."""
    if words.count(";") != 1:
        raise NoAsk("there is just one semicolon among the names")
    at = words.index(";")
    above = words[:at]
    beneath = words[at + 1:]
    if not (1 <= len(above) <= MOST_NAMES and 1 <= len(beneath) <= MOST_NAMES):
        raise NoAsk("there are one to four names on each side")
    return above, beneath


def shown(rows):
    """Tell the texts of rows of numbers."""
    return [" ".join([str(number) for number in row]) for row in rows]


class Desk:
    """Lines under names, and the answers to what is asked of them."""

    def __init__(self):
        self.lines = {}

    def ask(self, line):
        """Answer a line with a list of texts, or refuse it with NoAsk, then as the parts refuse."""
        # Parted at each single blank, a blank too many leaves an empty word, which is nothing here.
        words = line.split(" ")
        if words[0] == "line":
            self.put_line(words[1:])
            return []
        if words[0] == "points":
            return shown(self.points_rows(words[1:]))
        return shown(self.rows_of_one(words[0], words[1:]))

    def put_line(self, words):
        """Keep a line under a name; words are the name and the line's numbers."""
        a, b, m = read_numbers(words[1:], "XXX")
        check_name(words[0])
        line = (a, b, m)
        check_line(line)
        self.lines[words[0]] = line

    def line_of(self, name):
        """Tell the line under a name, or refuse the name with NoAsk."""
        # A word that is no name was never let in, so it is not there, either.
        if name not in self.lines:
            raise NoAsk("there is no line of that name")
        return self.lines[name]

    def points_rows(self, words):
        """Tell the row of the count of points; words are the two places and the names."""
        above_names, beneath_names = parted_names(words[2:])
        low, high = read_numbers(words[:2], "XX")
        above = tuple([self.line_of(name) for name in above_names])
        beneath = tuple([self.line_of(name) for name in beneath_names])
        return [(points_between(above, beneath, low, high),)]

    def rows_of_one(self, word, words):
        """Tell the rows that answer a word about one line; words are its name and some numbers."""
        if word not in ANSWERS:
            raise NoAsk("no line begins with that word")
        numbers = read_numbers(words[1:], FORMS[word])
        line = self.line_of(words[0])
        answer = ANSWERS[word]
        return answer(line, numbers)
