"""Sums over a prime, and ever more that they make, until they reduce each of their differences to nought."""

from polyring.reducing import Monic, add_multiple, multiple_of_terms


# One sum on the way. excess is how far the degree that it would have, had no term ever fallen out, is above that of its
# lead: those with little of it make little trouble. sources tells how it is made: by the place of each earlier one that
# it takes, that one's factor, by keys. Given ones have the places -1, -2 .. there.
class Found:
    def __init__(self, monic, excess, sources):
        self.monic = monic
        self.excess = excess
        self.sources = sources


# found is all that was found, by place; reducers the same, as (lead, place), those with the least excess first; actives
# are the places that further pairs are made with. A pair is (degree, key, place, other place): the degree that its
# difference would have, had no term ever fallen out, and the least key that both leads divide.
class Closing:
    def __init__(self, prime, packing, rows):
        self.prime = prime
        self.packing = packing
        self.found = []
        self.reducers = []
        self.actives = []
        self.pairs = []
        for place, terms in enumerate(rows):
            if len(terms) > 0:
                self.take(terms, max([packing.degree_of(key) for key in terms]), {-1 - place: {0: 1}})
        while len(self.pairs) > 0:
            pair = min(self.pairs)
            self.pairs.remove(pair)
            self.follow(pair)

    # Reduces the difference of a pair, and takes what is left of it, if anything is.
    def follow(self, pair):
        terms = {}
        sources = {}
        for place, factor in ((pair[2], 1), (pair[3], self.prime - 1)):
            monic = self.found[place].monic
            shift = pair[1] - monic.top
            add_multiple(self.prime, terms, monic.tail, shift, factor)
            sources[place] = {shift: factor}
        degree = self.lower_lead(terms, pair[0], sources)
        if len(terms) > 0:
            self.take(terms, degree, sources)

    # Only leads are reduced: by "lex" the degrees would rise beyond measure if the terms behind them were, too.
    def lower_lead(self, terms, degree, sources):
        while len(terms) > 0:
            top = max(terms)
            place = self.place_of_divisor(top)
            if place is None:
                return degree
            found = self.found[place]
            shift = top - found.monic.top
            number = terms.pop(top)
            add_multiple(self.prime, terms, found.monic.tail, shift, -number)
            add_multiple(self.prime, sources.setdefault(place, {}), [(shift, 1)], 0, -number)
            degree = max(degree, found.excess + self.packing.degree_of(top))
        return degree

    def place_of_divisor(self, top):
        guards = self.packing.guards
        guarded = top | guards
        for lead, place in self.reducers:
            if (guarded - lead) & guards == guards:
                return place
        return None

    def take(self, terms, degree, sources):
        monic = Monic(self.prime, terms)
        made = {}
        for place, factor in sources.items():
            made[place] = multiple_of_terms(self.prime, factor, monic.back)
        self.found.append(Found(monic, degree - self.packing.degree_of(monic.top), made))
        self.reducers = sorted(self.reducers + [(monic.top, len(self.found) - 1)], key=self.trouble_of)
        self.renew_pairs(len(self.found) - 1)

    def trouble_of(self, reducer):
        found = self.found[reducer[1]]
        return (found.excess, len(found.monic.tail))

    def top_of(self, place):
        return self.found[place].monic.top

    # With a number alone all is found: nothing but it is left to be paired.
    def renew_pairs(self, new):
        top = self.top_of(new)
        if top == 0:
            self.pairs = []
            return
        kept = [pair for pair in self.pairs if not self.is_spared(pair, top)]
        self.pairs = kept + self.pairs_with(new)
        self.actives = [place for place in self.actives if not self.packing.is_divided(self.top_of(place), top)]
        self.actives.append(new)

    # A pair whose key the new lead divides is told by the new one's pairs with both, unless one has the same key.
    def is_spared(self, pair, top):
        if not self.packing.is_divided(pair[1], top):
            return False
        return pair[1] not in [self.packing.least_of(self.top_of(place), top) for place in pair[2:]]

    # Of pairs with the new one those whose key another one's key divides are told by that one; and where two leads have
    # no unknown in common, the difference is reduced to nought, and with it all of the same key.
    def pairs_with(self, new):
        top = self.top_of(new)
        kept = {}
        for key, place in sorted([(self.packing.least_of(top, self.top_of(place)), place) for place in self.actives]):
            is_nought = key == top + self.top_of(place)
            if key in kept:
                kept[key] = None if is_nought else kept[key]
            elif not any([self.packing.is_divided(key, lower) for lower in kept]):
                kept[key] = None if is_nought else place
        return [self.pair_of(key, kept[key], new) for key in kept if kept[key] is not None]

    def pair_of(self, key, place, new):
        degrees = [self.found[one].excess + self.packing.degree_of(key) for one in (place, new)]
        return (max(degrees), key, place, new)
