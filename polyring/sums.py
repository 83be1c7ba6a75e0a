"""Sums in one to four unknowns: making them, reckoning with them, their values and slopes."""

from polyring.errors import NoCount, NoTerm, NoUnknowns
from polyring.numbers import check_ring, is_whole, repeated, rest_in_ring

MOST_UNKNOWNS = 4
MOST_MADE_EXPONENT = 99


def is_whole_within(thing, lowest, highest):
    return is_whole(thing) and lowest <= thing <= highest


def check_unknowns(many):
    if not is_whole_within(many, 1, MOST_UNKNOWNS):
        raise NoUnknowns("a count of unknowns is a whole number from 1 to 4")


def are_exponents(thing, many):
    if not isinstance(thing, tuple) or len(thing) != many:
        return False
    return all([is_whole_within(exponent, 0, MOST_MADE_EXPONENT) for exponent in thing])


def is_pair(thing, many):
    if not isinstance(thing, tuple) or len(thing) != 2:
        return False
    return are_exponents(thing[0], many) and is_whole(thing[1])


def check_pairs(many, pairs):
    for thing in pairs:
        if not is_pair(thing, many):
            raise NoTerm("a term is a tuple of exponents from 0 to 99, one for each unknown, and a whole number")


def add_to(totals, exponents, number):
    totals[exponents] = totals.get(exponents, 0) + number


def settled_terms(ring, pairs):
    terms = [(exponents, rest_in_ring(ring, number)) for exponents, number in pairs]
    return [term for term in terms if term[1] != 0]


# The keys of totals are exponents that each stand there once, so sorting them gives the order of a sum.
def sum_of_totals(ring, totals):
    return settled_terms(ring, [(exponents, totals[exponents]) for exponents in sorted(totals, reverse=True)])


def made(ring, many, pairs):
    check_ring(ring)
    check_unknowns(many)
    check_pairs(many, pairs)
    totals = {}
    for exponents, number in pairs:
        add_to(totals, exponents, number)
    return sum_of_totals(ring, totals)


def constant(ring, many, number):
    check_ring(ring)
    check_unknowns(many)
    return settled_terms(ring, [((0,) * many, number)])


def plus(ring, ones, others):
    check_ring(ring)
    return with_multiple(ring, ones, others, 1)


def minus(ring, ones, others):
    check_ring(ring)
    return with_multiple(ring, ones, others, -1)


def with_multiple(ring, ones, others, factor):
    totals = dict(ones)
    for exponents, number in others:
        add_to(totals, exponents, factor * number)
    return sum_of_totals(ring, totals)


def times(ring, ones, others):
    check_ring(ring)
    return product(ring, ones, others)


def product(ring, ones, others):
    totals = {}
    for exponents, number in ones:
        for by_exponents, by_number in others:
            add_to(totals, joined(exponents, by_exponents), number * by_number)
    return sum_of_totals(ring, totals)


def joined(exponents, others):
    return tuple([one + other for one, other in zip(exponents, others)])


def scaled(ring, row, number):
    check_ring(ring)
    return settled_terms(ring, [(exponents, own * number) for exponents, own in row])


def raised(ring, row, count):
    check_ring(ring)
    if not is_whole(count) or count < 1:
        raise NoCount("a sum is raised by a whole number from 1 on")
    return repeated(lambda one, other: product(ring, one, other), list(row), count)


def value(ring, row, point):
    check_ring(ring)
    total = 0
    for exponents, number in row:
        total = rest_in_ring(ring, total + number * value_of_unknowns(ring, exponents, point))
    return total


def value_of_unknowns(ring, exponents, point):
    answer = 1
    for exponent, number in zip(exponents, point):
        answer = rest_in_ring(ring, answer * power_of_number(ring, number, exponent))
    return answer


# 1 for the exponent 0, of the number 0 too: an unknown that isn't there changes nothing.
def power_of_number(ring, number, exponent):
    if exponent == 0:
        return 1
    return repeated(lambda one, other: rest_in_ring(ring, one * other), rest_in_ring(ring, number), exponent)


# Lowering one exponent in all terms keeps their order. A term without the unknown would stand with the exponent -1,
# but its number has come to nought by then, and it falls out.
def slope(ring, row, unknown):
    check_ring(ring)
    pairs = [(lowered(exponents, unknown), number * exponents[unknown]) for exponents, number in row]
    return settled_terms(ring, pairs)


def lowered(exponents, unknown):
    return exponents[:unknown] + (exponents[unknown] - 1,) + exponents[unknown + 1:]
