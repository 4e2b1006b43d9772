"""Papers that show the sum of a line's parts, row by row, and the looker that tells whether they do."""

from turnedline.lines import laid_off, turned
from turnedline.sums import sum_places


def paper_steps(line, n):
    """Tell the rows (n, line, more) of a paper, each with what its sum is more than the next one's."""
    steps = []
    while line is not None:
        q, r, rest_line = laid_off(line)
        steps.append((n, line, q * sum_places(n) + r * n))
        n, line = turned(rest_line, n)
    return steps


def sum_paper(line, n):
    """Tell the paper of a line's sum over n places: rows (n, line, sum), each made of the one ahead."""
    rows = []
    total = 0
    # Each sum hangs on the next row's, so they are made from the last one on.
    for count, row_line, more in reversed(paper_steps(line, n)):
        total += more
        rows.append((count, row_line, total))
    return tuple(rows[::-1])


def sum_shown(line, n, total, paper):
    """Tell whether rows are the paper of a line and n, and the total is their sum."""
    if line[2] < 1:
        return False
    told = sum_paper(line, n)
    return paper == told and total == told[0][2]
