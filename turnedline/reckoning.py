"""Reckoning with whole numbers that several modules need."""


def rounded_up(number, by):
    """Tell the least whole number that, times by (from 1 on), is no less than the number."""
    return -(-number // by)


def common_measure(a, m):
    """Tell the greatest common measure of a and an m from 1 on."""
    while m != 0:
        a, m = m, a % m
    return a


def first_such(low, high, is_such):
    """Tell the first number from low to high that is such; high is, and so are all behind the first."""
    while low < high:
        middle = (low + high) // 2
        if is_such(middle):
            high = middle
        else:
            low = middle + 1
    return low
