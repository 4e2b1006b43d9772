"""Rests of a line: how many are beneath a bound, the first within bounds, and which in order."""

from turnedline.errors import NoPlace, NoStretch
from turnedline.lines import check_line, rest_at
from turnedline.reckoning import common_measure, first_such, rounded_up
from turnedline.sums import check_stretch, sum_parts


def rests_beneath(line, n, bound):
    """Tell how many of the first n places have a rest beneath a bound."""
    check_line(line)
    a, b, m = line
    within = max(0, min(bound, m))
    # The line put lower by the bound has a part less by 1 just where the rest is beneath it.
    return sum_parts(line, n) - sum_parts((a, b - within, m), n)


def first_multiple(a, m, low, high):
    """Tell the first place whose rest on the line (a, 0, m) is from low to high, or None.

    Here a is from 0 to m - 1, low from 1 on, and high from low to m - 1.
    """
    steps = []
    while a != 0 and rounded_up(low, a) * a > high:
        steps.append((a, m, low))
        # No multiple of a lies within, so a * x does only behind some y rounds of m, and just
        # where m * y has, at a, a rest that far ahead of a multiple: the same asked of less.
        a, m, low, high = m % a, a, -high % a, -low % a
    if a == 0:
        return None
    place = rounded_up(low, a)
    for old_a, old_m, old_low in reversed(steps):
        place = rounded_up(old_m * place + old_low, old_a)
    return place


def first_within(line, low, high):
    """Tell the first place from 0 on whose rest is from low to high, or None."""
    check_line(line)
    a, b, m = line
    if low < 0 or high >= m:
        raise NoStretch("the bounds of a rest are from 0 to m - 1")
    check_stretch(low, high)
    if low <= rest_at(line, 0) <= high:
        return 0
    # Seen from the rest at 0, both bounds lie ahead on the same round, since it is not between.
    return first_multiple(a % m, m, (low - b) % m, (high - b) % m)


def in_order(line, n, number):
    """Tell the pair (rest, place) with a number among the first n places, by rest, then by place."""
    check_line(line)
    if not 0 <= number < n:
        raise NoPlace("the places in order have the numbers from 0 on, one for each place")
    m = line[2]
    rest = first_such(0, m - 1, lambda most: rests_beneath(line, n, most + 1) > number)
    # Those with a lesser rest have the numbers ahead; alike rests come at even distances.
    ahead = number - rests_beneath(line, n, rest)
    distance = m // common_measure(line[0], m)
    return (rest, first_within(line, rest, rest) + ahead * distance)
