"""Sums of squares, and of places times parts or rests, of however many places."""

from turnedline.lines import laid_off, turned
from turnedline.sums import sum_places


def sum_place_squares(n):
    """Tell the sum of the squares of the places from 0 on, n of them."""
    return n * (n - 1) * (2 * n - 1) // 6


def sums_before_turning(n, k, sums):
    """Tell the sums of the n parts of a line from those of the k parts of the line it is turned to."""
    parts, squares, placed = sums
    # The new part at i counts the old places with a part of k - i or more: the last ones ahead of n.
    # Their sum is n times this count, less the sum of the numbers from 1 up to it.
    new_placed = n * parts - (squares + parts) // 2
    # A square is the sum of the first odd numbers: each count is taken 2 * (k - i) - 1 times.
    new_squares = (2 * k - 1) * parts - 2 * placed
    return (parts, new_squares, new_placed)


def sums_before_laying_off(n, q, r, sums):
    """Tell the sums of n parts that are each q times the place and r more than those summed."""
    parts, squares, placed = sums
    places = sum_places(n)
    place_squares = sum_place_squares(n)
    new_parts = q * places + r * n + parts
    new_placed = q * place_squares + r * places + placed
    laid_squares = q * q * place_squares + 2 * q * r * places + r * r * n
    new_squares = laid_squares + 2 * (q * placed + r * parts) + squares
    return (new_parts, new_squares, new_placed)


def part_sums(line, n):
    """Tell the sums of n parts, of their squares, and of the places times them, all together."""
    steps = []
    while line is not None:
        q, r, line = laid_off(line)
        k, line = turned(line, n)
        steps.append((n, q, r, k))
        n = k
    # The last line has no part but 0; from it the sums come back the way that was gone.
    sums = (0, 0, 0)
    for count, q, r, k in reversed(steps):
        sums = sums_before_laying_off(count, q, r, sums_before_turning(count, k, sums))
    return sums


def sum_squares(line, n):
    """Tell the sum of the squares of a line's parts at the places from 0 on, n of them."""
    return part_sums(line, n)[1]


def sum_placed(line, n):
    """Tell the sum of the places from 0 on, n of them, each times the part there."""
    return part_sums(line, n)[2]


def sum_rest_squares(line, n):
    """Tell the sum of the squares of a line's rests at the places from 0 on, n of them."""
    parts, squares, placed = part_sums(line, n)
    a, b, m = line
    heights = a * a * sum_place_squares(n) + 2 * a * b * sum_places(n) + b * b * n
    # A rest is the height less m times the part.
    return heights - 2 * m * (a * placed + b * parts) + m * m * squares


def sum_rest_placed(line, n):
    """Tell the sum of the places from 0 on, n of them, each times the rest there."""
    placed = sum_placed(line, n)
    a, b, m = line
    return a * sum_place_squares(n) + b * sum_places(n) - m * placed
