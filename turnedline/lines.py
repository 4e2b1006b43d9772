"""Lines (a, b, m): part and rest at a place, laying off, turning, and their texts."""

from turnedline.errors import NoLine, NoText, NoTurn


def check_line(line):
    """Refuse with NoLine a line whose m is below 1."""
    if line[2] < 1:
        raise NoLine("the m of a line is from 1 on")


def height_at(line, place):
    """Tell a * x + b at a place x, or refuse with NoLine."""
    check_line(line)
    return line[0] * place + line[1]


def part_at(line, place):
    """Tell the greatest whole number that, times m, is no more than a * x + b."""
    return height_at(line, place) // line[2]


def rest_at(line, place):
    """Tell what a * x + b is more than m times the part, from 0 to m - 1."""
    return height_at(line, place) % line[2]


def laid_off(line):
    """Tell (q, r, new line): a and b less q and r times m, so that both are from 0 to m - 1."""
    check_line(line)
    a, b, m = line
    q, new_a = divmod(a, m)
    r, new_b = divmod(b, m)
    return (q, r, (new_a, new_b, m))


def turned(line, n):
    """Tell (k, new line) whose k parts have the sum of the n parts of this one, or (0, None)."""
    check_line(line)
    a, b, m = line
    if not (0 <= a < m and 0 <= b < m):
        raise NoTurn("a line that is turned has a and b from 0 to m - 1")
    k = part_at(line, n)
    if k == 0:
        # With a at 0 there would be no new line, but then k is 0, too.
        return (0, None)
    return (k, (m, rest_at(line, n), a))


def line_shown(line):
    """Tell the text of a line, its three numbers parted by single blanks."""
    check_line(line)
    a, b, m = line
    return f"{a} {b} {m}"


def is_number(word):
    """Tell whether a word is a whole number as line_shown writes it."""
    figures = word.removeprefix("-")
    # isdigit alone would take figures of other scripts, too.
    if not (figures.isascii() and figures.isdigit()):
        return False
    return word == "0" or not figures.startswith("0")


def read_line(text):
    """Tell the line of a text, or refuse with NoText, then with NoLine."""
    # Parted at each single blank, a blank too many leaves an empty word, which is no number.
    words = text.split(" ")
    if len(words) != 3 or not all([is_number(word) for word in words]):
        raise NoText("the text of a line is three whole numbers, parted by single blanks")
    line = (int(words[0]), int(words[1]), int(words[2]))
    check_line(line)
    return line
