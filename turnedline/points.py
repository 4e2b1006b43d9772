"""Points of whole numbers that lie between lines above and lines beneath."""

from turnedline.lines import check_line
from turnedline.reckoning import first_such, rounded_up
from turnedline.sums import check_stretch, sum_between


def check_between(above, beneath, low, high):
    """Refuse with NoLine any line that is none, then with NoStretch two places that make none."""
    for line in above:
        check_line(line)
    for line in beneath:
        check_line(line)
    check_stretch(low, high)


def kept(stretch, c, d):
    """Tell the stretch, perhaps of no place, of those places x where c * x is no less than d."""
    low, high = stretch
    if c > 0:
        return (min(max(low, rounded_up(d, c)), high), high)
    if c < 0:
        return (low, max(min(high, d // c + 1), low))
    if d > 0:
        return (low, low)
    return stretch


def kept_no_higher(stretch, line, other, gap):
    """Tell the stretch of those places where a line is no higher than another one, by gap 1 lower."""
    a, b, m = line
    other_a, other_b, other_m = other
    # Both heights are taken times both m, and so are whole numbers: lower is lower by 1 at least.
    return kept(stretch, other_a * m - a * other_m, b * other_m - other_b * m + gap)


def stretch_between(above, beneath, low, high):
    """Tell the stretch of those places where no line beneath is higher than one above."""
    stretch = (low, high)
    for line in beneath:
        for other in above:
            stretch = kept_no_higher(stretch, line, other, 0)
    return stretch


def stretch_of_least(lines, at, stretch):
    """Tell the stretch of those places where the line with the number at is the least one."""
    for number, other in enumerate(lines):
        # Of alike ones the first is taken, so that each place falls to one line alone.
        gap = 1 if number < at else 0
        stretch = kept_no_higher(stretch, lines[at], other, gap)
    return stretch


def sum_least(lines, stretch):
    """Tell the sum, over the places of a stretch, of the least part that one of the lines has."""
    total = 0
    for at, line in enumerate(lines):
        low, high = stretch_of_least(lines, at, stretch)
        total += sum_between(line, low, high)
    return total


def upside_down(lines):
    """Tell the lines that are as far below 0 as these are above it."""
    return [(-a, -b, m) for a, b, m in lines]


def backward(lines):
    """Tell the lines that are at each place as these are at the place less than 0 by as much."""
    return [(-a, b, m) for a, b, m in lines]


def count_points(above, beneath, stretch):
    """Tell how many points there are over a stretch where no line beneath is higher than one above."""
    low, high = stretch
    # At each place y goes from the greatest height beneath, rounded up, to the least part above;
    # where a line beneath were higher, this would take away more than there is.
    return sum_least(above, stretch) + sum_least(upside_down(beneath), stretch) + high - low


def points_between(above, beneath, low, high):
    """Tell how many points there are from the place low on, ahead of the place high."""
    check_between(above, beneath, low, high)
    return count_points(above, beneath, stretch_between(above, beneath, low, high))


def first_between(above, beneath, low, high):
    """Tell the first place with a point, from the place low on, ahead of high, or None."""
    start, end = stretch_between(above, beneath, low, high)
    if count_points(above, beneath, (start, end)) == 0:
        return None
    return first_such(start, end - 1, lambda place: count_points(above, beneath, (start, place + 1)) > 0)


def ends_between(above, beneath, low, high):
    """Tell the first and the last place with a point, from low on, ahead of high, or None."""
    check_between(above, beneath, low, high)
    first = first_between(above, beneath, low, high)
    if first is None:
        return None
    # Seen backward the last place is the first one.
    last = -first_between(backward(above), backward(beneath), 1 - high, 1 - low)
    return (first, last)
