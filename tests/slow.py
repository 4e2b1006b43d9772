"""What the document says of a line, reckoned place by place and without dividing.

The tests hold the program against these, so nothing here is taken from the program.
"""

BIG = 10 ** 59 + 39
BIGGER = 987654321098765432109876543210987654321098765432109876543211
BIGGEST = 10 ** 60 - 1


def part(line, place):
    a, b, m = line
    height = a * place + b
    found = 0
    while (found + 1) * m <= height:
        found += 1
    while found * m > height:
        found -= 1
    return found


def rest(line, place):
    a, b, m = line
    return a * place + b - m * part(line, place)


def sum_of_parts(line, places):
    return sum(part(line, place) for place in places)


def sum_of_rests(line, places):
    return sum(rest(line, place) for place in places)


def small_lines(reach=5, most=6):
    """Every line with a and b from -reach to reach and m from 1 to most."""
    for m in range(1, most + 1):
        for a in range(-reach, reach + 1):
            for b in range(-reach, reach + 1):
                yield (a, b, m)


def edge_numbers(m):
    """Numbers about which a and b of a line at m may go wrong."""
    return (-BIGGEST, -m - 1, -m, 1 - m, -1, 0, 1, m - 1, m, m + 1, 2 * m, BIG, BIGGEST)


def great_lines():
    for m in (1, 2, 7, 1000, BIG, BIGGER, BIGGEST):
        for a in edge_numbers(m):
            for b in edge_numbers(m):
                yield (a, b, m)


def golden_pair():
    """Neighbours in this row take the most turnings that numbers of sixty figures can."""
    small, great = 1, 1
    while small + great < 10 ** 60:
        small, great = great, small + great
    return small, great


def four_sums(parts, rests):
    """The sums of [8] from the parts and rests of the places from 0 on."""
    return (
        sum(part * part for part in parts),
        sum(place * part for place, part in enumerate(parts)),
        sum(rest * rest for rest in rests),
        sum(place * rest for place, rest in enumerate(rests)),
    )


def first_place(line, low, high):
    """The first place whose rest is from low to high: behind m places the rests come again."""
    for place in range(line[2]):
        if low <= rest(line, place) <= high:
            return place
    return None


def ordered(line, n):
    """The pairs (rest, place) of the first n places, in order."""
    return sorted((rest(line, place), place) for place in range(n))


def heights_of_points(above, beneath, x):
    """How many y a place x has; a height is divided here, since it may be as great as it likes."""
    most = min((a * x + b) // m for a, b, m in above)
    least = max(-((-a * x - b) // m) for a, b, m in beneath)
    return max(0, most - least + 1)


def points(above, beneath, low, high):
    """The count of the points, and the first and last place with one, or None."""
    total = 0
    found = []
    for x in range(low, high):
        here = heights_of_points(above, beneath, x)
        total += here
        if here > 0:
            found.append(x)
    return total, (found[0], found[-1]) if found else None


def word(line, n):
    """The text of going along a line: r, then a u for each that the next place's part is greater."""
    letters = ""
    for place in range(n):
        letters += "r" + "u" * (part(line, place + 1) - part(line, place))
    return letters


def map_of_word(letters, over, up, k):
    """The map that does the letters one by one; 0 and 1 are led along, and tell where all go."""
    def led(x):
        for letter in letters:
            p, q = over if letter == "r" else up
            x = (p * x + q) % k
        return x

    q = led(0)
    return ((led(1) - q) % k, q)


def repeated_map(step, times, k):
    """The map that does a map so many times, by the sum of a row of powers."""
    p, q = step
    if times == 0:
        return (1 % k, 0)
    if p == 0:
        return (0, q)
    if p == 1:
        return (1 % k, q * times % k)
    power = pow(p, times, k * (p - 1))
    return (power % k, q * ((power - 1) // (p - 1)) % k)


def chained_maps(maps, k):
    """The map that does all of the maps, one behind the other."""
    p, q = 1 % k, 0
    for next_p, next_q in maps:
        p, q = p * next_p % k, (q * next_p + next_q) % k
    return (p, q)


def paper(line, n):
    """The rows of a paper as the document makes them, with sums of place by place."""
    rows = []
    while True:
        a, b, m = line
        rows.append((n, line, sum_of_parts(line, range(n))))
        low_a, low_b = rest((0, a, m), 0), rest((0, b, m), 0)
        k = part((low_a, low_b, m), n)
        if k == 0:
            return tuple(rows)
        line, n = (m, rest((low_a, low_b, m), n), low_a), k
