"""Maps put one behind the other along a line, and the text of going along it."""

from turnedline.errors import NoMap, NoTurn
from turnedline.lines import check_line, laid_off, part_at
from turnedline.reckoning import rounded_up


def check_rising(line):
    """Refuse with NoTurn a line that cannot be gone along, since its parts may become less."""
    if line[0] < 0:
        raise NoTurn("a line that is gone along has an a from 0 on")


def is_map(pair, k):
    """Tell whether both numbers of a pair are from 0 on and below k."""
    p, q = pair
    # With a k below 1 there are no such numbers, so that no pair is a map then.
    return 0 <= p < k and 0 <= q < k


def check_maps(over, up, k):
    """Refuse with NoMap a k below 1, or a map with a number that is not from 0 on and below k."""
    if not (is_map(over, k) and is_map(up, k)):
        raise NoMap("the numbers of a map are from 0 on and below k, and k is from 1 on")


def chained(first, second, k):
    """Tell the one map that does the first map and then the second one."""
    p, q = first
    next_p, next_q = second
    return (next_p * p % k, (next_p * q + next_q) % k)


def repeated(step, times, k):
    """Tell the one map that does a map so many times."""
    done = (1 % k, 0)
    while times > 0:
        if times % 2 == 1:
            done = chained(done, step, k)
        step = chained(step, step, k)
        times //= 2
    return done


def overs_ahead(line, number):
    """Tell how many overs come ahead of the up with a number, from 1 on, of a line laid off."""
    a, b, m = line
    return rounded_up(m * number - b, a)


def turned_inside(line):
    """Tell the line along which the overs go up, from the first up on to the last one."""
    a, b, m = line
    # Its part at i is overs_ahead of the number i + 1.
    return (m, m - b + a - 1, a)


def map_along(line, n, over, up, k):
    """Tell the map that does, at each of n places, over once and then up as often as the part grows."""
    check_line(line)
    check_maps(over, up, k)
    check_rising(line)
    ahead = behind = repeated(over, 0, k)
    while True:
        # How often the part grows does not hang on r; q of the ups come behind every over.
        q, r, line = laid_off(line)
        over = chained(over, repeated(up, q, k), k)
        ups = part_at(line, n)
        if ups == 0:
            return chained(chained(ahead, repeated(over, n, k), k), behind, k)
        # Ahead of the first up, and behind the last, come overs alone; between them, each up but
        # the last is followed by overs, as many as another line's part grows there.
        ahead = chained(ahead, repeated(over, overs_ahead(line, 1), k), k)
        last = chained(up, repeated(over, n - overs_ahead(line, ups), k), k)
        behind = chained(last, behind, k)
        line, n, over, up = turned_inside(line), ups - 1, up, over


def word_along(line, n):
    """Tell the text of going along a line for n places: r for each over, u for each up."""
    check_line(line)
    check_rising(line)
    return "".join(["r" + "u" * (part_at(line, x + 1) - part_at(line, x)) for x in range(n)])
