"""Bases that reduce, over a prime, and the differences by which they are known."""

from polyring.errors import NoSums
from polyring.numbers import check_prime
from polyring.orders import check_order
from polyring.packing import packing_for
from polyring.reducing import Monic, add_multiple, check_none_nought, lower_top, reduced_by, sums_of_quotients
from polyring.spans import Span


def base(prime, order, given):
    check_prime(prime)
    check_order(order)
    check_sums(given)
    span = Span(prime, given)
    rows = span.rows_by(order)
    downs = [reduced_by(prime, order, row, rows)[0] for row in given]
    return (rows, [span.ways_to(row) for row in rows], downs)


def check_sums(given):
    if len(given) == 0:
        raise NoSums("a base is of one sum or more")


def differences(prime, order, rows):
    check_prime(prime)
    check_order(order)
    check_none_nought(rows)
    packing = packing_for(order, rows)
    monics = [Monic(prime, packing.terms_of(row)) for row in rows]
    found = []
    for first in range(len(rows)):
        for second in range(first + 1, len(rows)):
            quotients = quotients_of_difference(prime, packing, monics, first, second)
            if quotients is None:
                return None
            found.append((first, second, sums_of_quotients(prime, packing, monics, quotients)))
    return found


# None where not all of the difference can be taken off. The highest terms of both fall out against one another.
def quotients_of_difference(prime, packing, monics, first, second):
    key = packing.least_of(monics[first].top, monics[second].top)
    left = {}
    add_multiple(prime, left, monics[first].tail, key - monics[first].top, 1)
    add_multiple(prime, left, monics[second].tail, key - monics[second].top, -1)
    quotients = [{} for monic in monics]
    lower_top(prime, packing.guards, left, monics, quotients)
    return quotients if len(left) == 0 else None
