"""What the document says of a line, reckoned place by place and without dividing.

The tests hold the program against these, so nothing here is taken from the program.
"""

BIG = 10 ** 59 + 39
BIGGER = 987654321098765432109876543210987654321098765432109876543211
BIGGEST = 10 ** 60 - 1


def part(line, place):
    a, b, m = line
    height = a * place + b
    found = 0
    while (found + 1) * m <= height:
        found += 1
    while found * m > height:
        found -= 1
    return found


def rest(line, place):
    a, b, m = line
    return a * place + b - m * part(line, place)


def sum_of_parts(line, places):
    return sum(part(line, place) for place in places)


def sum_of_rests(line, places):
    return sum(rest(line, place) for place in places)


def small_lines(reach=5, most=6):
    """Every line with a and b from -reach to reach and m from 1 to most."""
    for m in range(1, most + 1):
        for a in range(-reach, reach + 1):
            for b in range(-reach, reach + 1):
                yield (a, b, m)


def edge_numbers(m):
    """Numbers about which a and b of a line at m may go wrong."""
    return (-BIGGEST, -m - 1, -m, 1 - m, -1, 0, 1, m - 1, m, m + 1, 2 * m, BIG, BIGGEST)


def great_lines():
    for m in (1, 2, 7, 1000, BIG, BIGGER, BIGGEST):
        for a in edge_numbers(m):
            for b in edge_numbers(m):
                yield (a, b, m)


def golden_pair():
    """Neighbours in this row take the most turnings that numbers of sixty figures can."""
    small, great = 1, 1
    while small + great < 10 ** 60:
        small, great = great, small + great
    return small, great


def four_sums(parts, rests):
    """The sums of [8] from the parts and rests of the places from 0 on."""
    return (
        sum(part * part for part in parts),
        sum(place * part for place, part in enumerate(parts)),
        sum(rest * rest for rest in rests),
        sum(place * rest for place, rest in enumerate(rests)),
    )


def first_place(line, low, high):
    """The first place whose rest is from low to high: behind m places the rests come again."""
    for place in range(line[2]):
        if low <= rest(line, place) <= high:
            return place
    return None


def ordered(line, n):
    """The pairs (rest, place) of the first n places, in order."""
    return sorted((rest(line, place), place) for place in range(n))


def heights_of_points(above, beneath, x):
    """How many y a place x has; a height is divided here, since it may be as great as it likes."""
    most = min((a * x + b) // m for a, b, m in above)
    least = max(-((-a * x - b) // m) for a, b, m in beneath)
    return max(0, most - least + 1)


def points(above, beneath, low, high):
    """The count of the points, and the first and last place with one, or None."""
    total = 0
    found = []
    for x in range(low, high):
        here = heights_of_points(above, beneath, x)
        total += here
        if here > 0:
            found.append(x)
    return total, (found[0], found[-1]) if found else None
