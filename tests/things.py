"""What several test files share: things that are no rings, sample sums, and a second way to reckon with sums."""

from fractions import Fraction
from itertools import product as every_choice

from polyring import errors

REFUSALS = (
    "NoRing", "NoPrime", "NoInverse", "NotWhole", "NoUnknowns", "NoTerm", "NoCount", "NoLead", "NoOrder",
    "NotWritten", "ByNought", "NoMeet", "NoParts", "NotPlain", "NoSums",
)

PRIMES = [n for n in range(2, 998) if all(n % d for d in range(2, n))]

SAMPLE_RINGS = (0, 2, 3, 5, 31, 97, 997)


class Odd:
    """Equal to everything, and the same hash as 0: still no whole number."""

    def __eq__(self, other):
        return True

    def __hash__(self):
        return 0


def no_rings():
    """Made anew for each test, so that one that changes them harms no other."""
    numbers = [1, -1, -2, -3, -7, -997, 4, 6, 8, 9, 10, 15, 25, 27, 49, 121, 169, 289, 361, 529, 841, 899, 961, 993,
               995, 996, 998, 999, 1000, 1009, 1369, 997 * 997, 2 ** 61 - 1, 10 ** 40, -(10 ** 40), 10 ** 5000]
    others = [True, False, None, "", "0", "2", "7", "ring", b"7", (), (0,), (2,), (7, 7), [], [0], [2], [7, 7], {},
              {0: 0}, {2: 3}, set(), {2}, frozenset([2]), range(2), 2j, Fraction(7), object(), Odd(), int, len]
    return numbers + others


def no_unknowns():
    return [0, 5, 6, -1, -4, 100, 10 ** 40, 10 ** 5000, True, False, None, "", "1", "2", b"2", (), (2,), [], [2], {},
            set(), 1j, Fraction(2), object(), Odd(), int]


def is_plain_number(thing):
    return isinstance(thing, int) and not isinstance(thing, bool)


def refusal_of(action, *arguments):
    """The name of the refusal that comes, or None; every refusal is looked at for its place among the classes."""
    try:
        action(*arguments)
    except errors.AlgebraError as error:
        names = [name for name in REFUSALS if isinstance(error, getattr(errors, name))]
        if len(names) != 1 or not isinstance(error, ValueError):
            raise AssertionError(f"a refusal of {names}") from error
        return names[0]
    return None


def fault_of_sum(ring, many, row):
    """What is wrong with a sum by [2], or None."""
    if not isinstance(row, list):
        return "no list"
    for term in row:
        if not isinstance(term, tuple) or len(term) != 2:
            return f"{term!r} is no pair"
        exponents, number = term
        if not isinstance(exponents, tuple) or len(exponents) != many:
            return f"{exponents!r} are no exponents in {many} unknowns"
        if not all(is_plain_number(exponent) and exponent >= 0 for exponent in exponents):
            return f"{exponents!r} are no exponents"
        if not is_plain_number(number) or number == 0 or (ring and not 0 < number < ring):
            return f"{number!r} is no number of a term over {ring}"
    places = [exponents for exponents, number in row]
    if any(not one > other for one, other in zip(places, places[1:])):
        return "its exponents don't fall strictly"
    return None


def from_dict(ring, numbers):
    """The sum of a dict, each number settled."""
    settled = {exponents: number % ring if ring else number for exponents, number in numbers.items()}
    return sorted(((exponents, number) for exponents, number in settled.items() if number), reverse=True)


def slow_times(ring, ones, others):
    numbers = {}
    for (exponents, number), (more, by) in every_choice(ones, others):
        both = tuple(map(sum, zip(exponents, more)))
        numbers[both] = numbers.get(both, 0) + number * by
    return from_dict(ring, numbers)


def slow_plus(ring, ones, others, factor=1):
    numbers = dict(ones)
    for exponents, number in others:
        numbers[exponents] = numbers.get(exponents, 0) + factor * number
    return from_dict(ring, numbers)


def slow_value(ring, row, point):
    total = 0
    for exponents, number in row:
        for exponent, place in zip(exponents, point):
            number *= place ** exponent
        total += number
    return total % ring if ring else total


def sample_sums(ring, many):
    """Sums of 0 to 9 terms, the same ones each time, small and great numbers and exponents among them."""
    seed = 12345 + 7 * many + ring
    sums = [[]]
    for length in (1, 1, 2, 3, 5, 9):
        numbers = {}
        for place in range(length):
            seed = (seed * 1103515245 + 12345) % 2 ** 31
            exponents = tuple((seed >> (4 + 3 * k)) % (100 if seed % 5 == 0 else 4) for k in range(many))
            seed = (seed * 1103515245 + 12345) % 2 ** 31
            number = (seed >> 8) % 19 - 9
            numbers[exponents] = number * 10 ** 41 + 7 if seed % 7 == 0 else number
        sums.append(from_dict(ring, numbers))
    sums.append(from_dict(ring, {(0,) * many: 1}))
    sums.append(from_dict(ring, {(0,) * many: -1}))
    sums.append(from_dict(ring, {(99,) * many: -3, (0,) * many: 4}))
    return sums
