"""Rows that nothing divides twice: the paper for them, and the parts of a row by how often they divide it."""

from polyring.dividing import greatest_row, met, parted, plain_multiple
from polyring.errors import NoParts
from polyring.numbers import check_prime
from polyring.rows import slope_of_row


def no_square(prime, row):
    check_prime(prime)
    return paper_of_row(prime, row)


# As no_square, for callers that have looked at the prime already.
def paper_of_row(prime, row):
    if len(row) == 0:
        return None
    found = met(prime, row, slope_of_row(prime, row))
    return (found[3], found[4]) if len(found[0]) == 1 else None


def parts(prime, row):
    check_prime(prime)
    return parts_of_row(prime, row)


# As parts, for callers that have looked at the prime already.
def parts_of_row(prime, row):
    if len(row) == 0:
        raise NoParts("nought has no parts")
    found = parts_by_many(prime, plain_multiple(prime, row))
    return (row[-1], [(found[many], many) for many in sorted(found)])


# The slope doesn't see what stands as often as a multiple of the prime tells. That is left over as a row in powers of
# the prime, whose root is looked at in its turn.
def parts_by_many(prime, row):
    found = {}
    step = 1
    left = row
    while len(left) > 1:
        unseen = greatest_row(prime, left, slope_of_row(prime, left))
        seen = parted(prime, left, unseen)[0]
        many = step
        while len(seen) > 1:
            further = greatest_row(prime, seen, unseen)
            part = parted(prime, seen, further)[0]
            if len(part) > 1:
                found[many] = part
            seen = further
            unseen = parted(prime, unseen, further)[0]
            many += step
        left = unseen[::prime]
        step = step * prime
    return found
