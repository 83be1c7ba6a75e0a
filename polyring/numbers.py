"""Rings and their numbers: rests, greatest common divisors, inverses, quotients."""

from polyring.errors import NoInverse, NoPrime, NoRing, NotWhole

MOST_RING = 997

# No product up to MOST_RING is without one of these as a divisor: the next prime is 37, and 37 times 37 is beyond.
FIRST_PRIMES = (2, 3, 5, 7, 11, 13, 17, 19, 23, 29, 31)


# Python counts True and False as whole numbers, the algebra does not.
def is_whole(thing):
    return isinstance(thing, int) and not isinstance(thing, bool)


def is_prime_within(number):
    if number in FIRST_PRIMES:
        return True
    if number < 2 or number > MOST_RING:
        return False
    return all([number % prime != 0 for prime in FIRST_PRIMES])


def is_ring(thing):
    return is_whole(thing) and (thing == 0 or is_prime_within(thing))


# The thing itself stays out of the words: it may be of any kind and size, and not every such one can be written.
def check_ring(ring):
    if not is_ring(ring):
        raise NoRing("a ring is 0 or a prime from 2 to 997")


def check_prime(prime):
    if not is_ring(prime) or prime == 0:
        raise NoPrime("a prime is one from 2 to 997")


# As settled, for callers that have looked at the ring already.
def rest_in_ring(ring, number):
    return number if ring == 0 else number % ring


def settled(ring, number):
    check_ring(ring)
    return rest_in_ring(ring, number)


def signed_unit(number):
    return -1 if number < 0 else 1


# Each triple (g, u, v) on the way holds u times one and v times other equal to g, so the last one does too.
def shared(one, other):
    upper = (abs(one), signed_unit(one), 0)
    lower = (abs(other), 0, signed_unit(other))
    while lower[0] != 0:
        often = upper[0] // lower[0]
        following = tuple([high - often * low for high, low in zip(upper, lower)])
        upper = lower
        lower = following
    return upper


# The g of shared alone, of any list of whole numbers.
def greatest_number(numbers):
    greatest = 0
    for number in numbers:
        lower = abs(number)
        while lower != 0:
            rest = greatest % lower
            greatest = lower
            lower = rest
        if greatest == 1:
            return 1
    return greatest


def inverse(ring, number):
    check_ring(ring)
    if ring == 0:
        return whole_inverse(number)
    if number % ring == 0:
        raise NoInverse("a multiple of the prime has no inverse")
    return shared(number % ring, ring)[1] % ring


def whole_inverse(number):
    if abs(number) != 1:
        raise NoInverse("only 1 and -1 have an inverse among the whole numbers")
    return number


def over(ring, one, other):
    check_ring(ring)
    if ring == 0:
        return whole_over(one, other)
    return one * inverse(ring, other) % ring


def whole_over(one, other):
    if other == 0:
        raise NoInverse("nothing is divided by nought")
    if one % other != 0:
        raise NotWhole("no whole number makes the first one of the second")
    return one // other


# The product of so many like things, count from 1 on, with about as many steps as count has bits.
def repeated(multiply, thing, count):
    answer = thing
    for place in range(count.bit_length() - 2, -1, -1):
        answer = multiply(answer, answer)
        if (count >> place) & 1 == 1:
            answer = multiply(answer, thing)
    return answer
