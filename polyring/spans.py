"""All sums that given ones, each times a sum, make over a prime: their bases, and how each of them is made."""

from polyring.closing import Closing
from polyring.packing import packing_for
from polyring.reducing import Monic, add_multiple, rest_of_terms


# Reckoned by "deg", where all goes fast, and from there by "lex". lowest are the places of those in the closing whose
# leads no other lead divides, by rising leads.
class Span:
    def __init__(self, prime, given):
        self.prime = prime
        self.given = given
        self.packing = packing_for("deg", given)
        self.closing = Closing(prime, self.packing, [self.packing.terms_of(row) for row in given])
        self.lowest = lowest_places(self.closing)
        self.ways = None

    # The rows of the base, as sums.
    def rows_by(self, order):
        rows = [self.packing.sum_of_terms(terms) for terms in base_terms(self.closing, self.lowest)]
        if order == "deg":
            return rows
        packing = packing_for(order, rows)
        closing = Closing(self.prime, packing, [packing.terms_of(row) for row in rows])
        return [packing.sum_of_terms(terms) for terms in base_terms(closing, lowest_places(closing))]

    # Of a sum that is made by the given ones: for each of them the sum that it is taken times.
    def ways_to(self, row):
        if self.ways is None:
            self.ways = ways_to_places(self.closing, self.lowest, len(self.given))
        ways = joined_ways(self.prime, self.sources_of(row), self.ways, len(self.given))
        return [self.packing.sum_of_terms(terms) for terms in ways]

    # By places as in the closing. A given one is made by itself alone; that way is far shorter than all others.
    def sources_of(self, row):
        if len(row) > 0 and row in self.given:
            return {-1 - self.given.index(row): {0: 1}}
        monics = [self.closing.found[place].monic for place in self.lowest]
        quotients = [{} for place in self.lowest]
        rest_of_terms(self.prime, self.packing.guards, self.packing.terms_of(row), monics, quotients)
        return dict(zip(self.lowest, quotients))


def lowest_places(closing):
    places = []
    for place in sorted(range(len(closing.found)), key=closing.top_of):
        top = closing.top_of(place)
        if not any([closing.packing.is_divided(top, closing.top_of(lower)) for lower in places]):
            places.append(place)
    return places


# Of each of the places the sum that is left when all that the leads of the others divide is taken off: only those below
# it can divide one of its terms, and these are looked at first.
def base_terms(closing, places):
    monics = []
    rows = []
    for place in places:
        own = closing.found[place].monic
        terms = rest_of_terms(closing.prime, closing.packing.guards, dict(own.tail), monics, [{} for one in monics])
        terms[own.top] = 1
        rows.append(terms)
        monics.append(Monic(closing.prime, terms))
    return rows


# For each of the places, and each that it is made of, the terms that each given one is taken times to make it.
def ways_to_places(closing, places, count):
    needed = dict([(place, True) for place in places])
    for place in range(len(closing.found) - 1, -1, -1):
        if place in needed:
            needed.update([(source, True) for source in closing.found[place].sources])
    ways = {}
    for place in range(count):
        ways[-1 - place] = [{0: 1} if one == place else {} for one in range(count)]
    for place in sorted(needed):
        if place >= 0:
            ways[place] = joined_ways(closing.prime, closing.found[place].sources, ways, count)
    return ways


def joined_ways(prime, sources, ways, count):
    answer = []
    for one in range(count):
        terms = {}
        for place, factor in sources.items():
            pairs = list(ways[place][one].items())
            for shift, number in factor.items():
                add_multiple(prime, terms, pairs, shift, number)
        answer.append(terms)
    return answer
