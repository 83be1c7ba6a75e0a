"""Rows divided by rows, and the greatest row that divides two."""

from polyring.errors import ByNought, NoMeet
from polyring.numbers import check_prime, inverse
from polyring.rows import row_multiple, row_of_rests, row_product, row_with_multiple


def divided(prime, row, by):
    check_prime(prime)
    if len(by) == 0:
        raise ByNought("no row is divided by nought")
    return parted(prime, row, by)


# As divided, for callers that have looked at the prime and at by already.
def parted(prime, row, by):
    rest = list(row)
    back = inverse(prime, by[-1])
    steps = max(0, len(row) - len(by) + 1)
    numbers = [0] * steps
    for shift in range(steps - 1, -1, -1):
        often = rest[shift + len(by) - 1] * back % prime
        numbers[shift] = often
        for power, number in enumerate(by):
            rest[shift + power] -= often * number
    return (row_of_rests(prime, numbers), row_of_rests(prime, rest))


def plain_multiple(prime, row):
    return row_multiple(prime, row, inverse(prime, row[-1]))


# The plain row that meet tells first; one of the two is not nought.
def greatest_row(prime, ones, others):
    upper = ones
    lower = others
    while len(lower) > 0:
        rest = parted(prime, upper, lower)[1]
        upper = lower
        lower = rest
    return plain_multiple(prime, upper)


def meet(prime, ones, others):
    check_prime(prime)
    if len(ones) == 0 and len(others) == 0:
        raise NoMeet("two noughts have no greatest divisor")
    return met(prime, ones, others)


# Each triple (g, u, v) on the way holds u times ones and v times others equal to g, so the last one does too.
def met(prime, ones, others):
    upper = (ones, [1], [])
    lower = (others, [], [1])
    while len(lower[0]) > 0:
        following = triple_below(prime, upper, lower)
        upper = lower
        lower = following
    back = inverse(prime, upper[0][-1])
    greatest = row_multiple(prime, upper[0], back)
    one_part = parted(prime, ones, greatest)[0]
    other_part = parted(prime, others, greatest)[0]
    return (greatest, one_part, other_part, row_multiple(prime, upper[1], back), row_multiple(prime, upper[2], back))


def triple_below(prime, upper, lower):
    pair = parted(prime, upper[0], lower[0])
    taken = [row_product(prime, pair[0], lower[place]) for place in (1, 2)]
    return (pair[1], row_with_multiple(prime, upper[1], taken[0], -1), row_with_multiple(prime, upper[2], taken[1], -1))
