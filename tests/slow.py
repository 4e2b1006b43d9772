"""What the document says of a line, reckoned place by place and without dividing.

The tests hold the program against these, so nothing here is taken from the program.
"""

BIG = 10 ** 59 + 39
BIGGER = 987654321098765432109876543210987654321098765432109876543211
BIGGEST = 10 ** 60 - 1


def part(line, place):
    a, b, m = line
    height = a * place + b
    found = 0
    while (found + 1) * m <= height:
        found += 1
    while found * m > height:
        found -= 1
    return found


def rest(line, place):
    a, b, m = line
    return a * place + b - m * part(line, place)


def sum_of_parts(line, places):
    return sum(part(line, place) for place in places)


def sum_of_rests(line, places):
    return sum(rest(line, place) for place in places)


def small_lines(reach=5, most=6):
    """Every line with a and b from -reach to reach and m from 1 to most."""
    for m in range(1, most + 1):
        for a in range(-reach, reach + 1):
            for b in range(-reach, reach + 1):
                yield (a, b, m)


def edge_numbers(m):
    """Numbers about which a and b of a line at m may go wrong."""
    return (-BIGGEST, -m - 1, -m, 1 - m, -1, 0, 1, m - 1, m, m + 1, 2 * m, BIG, BIGGEST)


def great_lines():
    for m in (1, 2, 7, 1000, BIG, BIGGER, BIGGEST):
        for a in edge_numbers(m):
            for b in edge_numbers(m):
                yield (a, b, m)
