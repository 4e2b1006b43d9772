"""Sums of a line's parts and rests, of however many places, by laying off and turning."""

from turnedline.errors import NoStretch
from turnedline.lines import check_line, height_at, laid_off, turned


def check_stretch(low, high):
    """Refuse with NoStretch an end that is less than the beginning."""
    if high < low:
        raise NoStretch("the end of a stretch is no less than its beginning")


def sum_places(n):
    """Tell the sum of the places from 0 on, n of them."""
    return n * (n - 1) // 2


def sum_parts(line, n):
    """Tell the sum of a line's parts at the places from 0 on, n of them."""
    total = 0
    # a and m become smaller as in looking for their common measure, so the turns are few.
    while line is not None:
        q, r, line = laid_off(line)
        total += q * sum_places(n) + r * n
        n, line = turned(line, n)
    return total


def sum_rests(line, n):
    """Tell the sum of a line's rests at the places from 0 on, n of them."""
    check_line(line)
    a, b, m = line
    return a * sum_places(n) + b * n - m * sum_parts(line, n)


def sum_between(line, low, high):
    """Tell the sum of a line's parts from the place low on, ahead of the place high."""
    check_line(line)
    check_stretch(low, high)
    # The same line, seen from low on: its place 0 is the other one's low.
    moved = (line[0], height_at(line, low), line[2])
    return sum_parts(moved, high - low)
