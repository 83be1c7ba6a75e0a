"""Sums over the whole numbers that nothing divides twice, and the parts of a sum by how often they divide it."""

from polyring.divisors import bare, content_in, content_of, greatest_sum, lowest_exponents, upright
from polyring.errors import NoParts
from polyring.mains import power_in, quotient_if_whole, with_power
from polyring.papers import paper_of
from polyring.sums import slope, times


def no_square_in(row):
    check_parts(row)
    unknowns = list(range(len(row[0][0])))
    if any([has_square_with(row, unknown) for unknown in unknowns]):
        return None
    return [paper_of(row, slope(0, row, unknown), unknown) for unknown in unknowns]


def check_parts(row):
    if len(row) == 0:
        raise NoParts("nought has no parts")


# Whether a sum with the unknown divides the row twice: what does so divides the slope, and nothing else with it does.
def has_square_with(row, unknown):
    if power_in(row, unknown) == 0:
        return False
    return power_in(greatest_sum(row, slope(0, row, unknown)), unknown) > 0


def parts_in(row):
    check_parts(row)
    number = content_of(row) if row[0][1] > 0 else -content_of(row)
    found = {}
    low = lowest_exponents(row)
    for unknown, many in enumerate(low):
        if many > 0:
            join_part(found, many, [(with_power((0,) * len(low), unknown, 1), 1)])
    left = upright(bare(row, low))
    for unknown in range(len(low)):
        if power_in(left, unknown) > 0:
            beside = content_in(left, unknown)
            find_parts_with(found, quotient_if_whole(left, beside), unknown)
            left = beside
    return (number, [(found[many], many) for many in sorted(found)])


def join_part(found, many, part):
    found[many] = times(0, found[many], part) if many in found else part


# Of a row that no sum without the unknown divides. All that divides it twice divides its slope once less often.
def find_parts_with(found, row, unknown):
    further = greatest_sum(row, slope(0, row, unknown))
    once = quotient_if_whole(row, further)
    many = 1
    while power_in(once, unknown) > 0:
        more = greatest_sum(once, further)
        part = quotient_if_whole(once, more)
        if power_in(part, unknown) > 0:
            join_part(found, many, part)
        once = more
        further = quotient_if_whole(further, more)
        many += 1
