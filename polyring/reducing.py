"""Sums over a prime, reduced by others: all is taken off that the leads of the others divide."""

from polyring.errors import ByNought
from polyring.packing import packing_for
from polyring.numbers import check_prime, inverse
from polyring.orders import check_order


# A sum by keys, taken so often that the number of its lead is 1: back is how often.
class Monic:
    def __init__(self, prime, terms):
        self.top = max(terms)
        self.back = inverse(prime, terms[self.top])
        self.tail = [(key, number * self.back % prime) for key, number in terms.items() if key != self.top]


def reduced(prime, order, row, by):
    check_prime(prime)
    check_order(order)
    check_none_nought(by)
    return reduced_by(prime, order, row, by)


def check_none_nought(rows):
    for row in rows:
        if len(row) == 0:
            raise ByNought("nothing is reduced by nought")


# As reduced, for callers that have looked at what is handed in already.
def reduced_by(prime, order, row, by):
    packing = packing_for(order, [row] + by)
    monics = [Monic(prime, packing.terms_of(one)) for one in by]
    quotients = [{} for one in by]
    rest = rest_of_terms(prime, packing.guards, packing.terms_of(row), monics, quotients)
    return (sums_of_quotients(prime, packing, monics, quotients), packing.sum_of_terms(rest))


# Quotients of monic sums as quotients of those that they were made of.
def sums_of_quotients(prime, packing, monics, quotients):
    sums = []
    for monic, terms in zip(monics, quotients):
        sums.append(packing.sum_of_terms(multiple_of_terms(prime, terms, monic.back)))
    return sums


def multiple_of_terms(prime, terms, factor):
    return dict([(key, number * factor % prime) for key, number in terms.items()])


# What is left of the terms, none of which a lead divides; how often the monic sums were taken off goes into quotients.
def rest_of_terms(prime, guards, terms, monics, quotients):
    left = dict(terms)
    rest = {}
    while len(left) > 0:
        lower_top(prime, guards, left, monics, quotients)
        if len(left) > 0:
            top = max(left)
            rest[top] = left.pop(top)
    return rest


# Takes monic sums off what is left until no lead divides its highest term, or nothing is left. The highest term falls
# all the time, so that each quotient has each key once.
def lower_top(prime, guards, left, monics, quotients):
    while len(left) > 0:
        top = max(left)
        place = place_of_divisor(guards, top, monics)
        if place is None:
            return
        shift = top - monics[place].top
        number = left.pop(top)
        quotients[place][shift] = number
        add_multiple(prime, left, monics[place].tail, shift, -number)


def place_of_divisor(guards, top, monics):
    guarded = top | guards
    for place, monic in enumerate(monics):
        if (guarded - monic.top) & guards == guards:
            return place
    return None


# Terms that come to nought are left out.
def add_multiple(prime, terms, pairs, shift, factor):
    for key, number in pairs:
        place = key + shift
        total = (terms.get(place, 0) + factor * number) % prime
        if total != 0:
            terms[place] = total
        elif place in terms:
            terms.pop(place)
