"""Exponents as single whole numbers, keys, that stand as the exponents do by an order and are added as they are.

A key has a field of bits for each exponent, the first unknown's on top, and by "deg" one for their sum above all. The
topmost bit of each exponent's field is left free: a guard, by which it is seen whether one key's exponents divide those
of another. Sums by keys are dicts from keys to numbers.
"""

# How much longer a field is than the greatest exponent handed in. A step of reducing adds no more to an exponent than
# the greatest one there is, so it takes more steps than can be waited for until a guard is reached.
SPARE_BITS = 40


class Packing:
    def __init__(self, order, many, highest):
        self.by_degree = order == "deg"
        self.many = many
        self.width = highest.bit_length() + SPARE_BITS
        self.guards = sum([1 << (self.width * place + self.width - 1) for place in range(many)])

    def key_of(self, exponents):
        key = sum(exponents) if self.by_degree else 0
        for exponent in exponents:
            key = (key << self.width) | exponent
        return key

    def exponents_of(self, key):
        field = (1 << self.width) - 1
        return tuple([(key >> (self.width * place)) & field for place in range(self.many - 1, -1, -1)])

    def degree_of(self, key):
        return key >> (self.width * self.many) if self.by_degree else sum(self.exponents_of(key))

    # The key of the least exponents that both divide.
    def least_of(self, one, other):
        return self.key_of([max(pair) for pair in zip(self.exponents_of(one), self.exponents_of(other))])

    # A guard falls where a field of by is greater than its fellow.
    def is_divided(self, key, by):
        return ((key | self.guards) - by) & self.guards == self.guards

    def terms_of(self, row):
        return dict([(self.key_of(exponents), number) for exponents, number in row])

    def sum_of_terms(self, terms):
        return sorted([(self.exponents_of(key), number) for key, number in terms.items()], reverse=True)


# Of noughts alone nobody tells how many unknowns there are, and one does.
def packing_for(order, rows):
    terms = []
    for row in rows:
        terms.extend(row)
    many = len(terms[0][0]) if len(terms) > 0 else 1
    return Packing(order, many, max([max(exponents) for exponents, number in terms], default=0))
