"""What several test files share: things that are no rings, sample sums, and a second way to reckon with sums."""

from fractions import Fraction
from itertools import product as every_choice
from math import gcd

from polyring import errors

REFUSALS = (
    "NoRing", "NoPrime", "NoInverse", "NotWhole", "NoUnknowns", "NoTerm", "NoCount", "NoLead", "NoOrder",
    "NotWritten", "ByNought", "NoMeet", "NoParts", "NotPlain", "NoSums",
)

PRIMES = [n for n in range(2, 998) if all(n % d for d in range(2, n))]

SAMPLE_RINGS = (0, 2, 3, 5, 31, 97, 997)


class Odd:
    """Equal to everything, and the same hash as 0: still no whole number."""

    def __eq__(self, other):
        return True

    def __hash__(self):
        return 0


def no_rings():
    """Made anew for each test, so that one that changes them harms no other."""
    numbers = [1, -1, -2, -3, -7, -997, 4, 6, 8, 9, 10, 15, 25, 27, 49, 121, 169, 289, 361, 529, 841, 899, 961, 993,
               995, 996, 998, 999, 1000, 1009, 1369, 997 * 997, 2 ** 61 - 1, 10 ** 40, -(10 ** 40), 10 ** 5000]
    others = [True, False, None, "", "0", "2", "7", "ring", b"7", (), (0,), (2,), (7, 7), [], [0], [2], [7, 7], {},
              {0: 0}, {2: 3}, set(), {2}, frozenset([2]), range(2), 2j, Fraction(7), object(), Odd(), int, len]
    return numbers + others


def no_primes():
    return [0] + no_rings()


def no_orders():
    return ["", "l", "le", "lexx", "Lex", "LEX", " lex", "lex ", "deg ", "degree", "DEG", "lexdeg", "grlex", "x", "0",
            b"lex", 0, 1, 2, -1, 10 ** 40, True, False, None, (), ("lex",), ("l", "e", "x"), [], ["lex"], ["deg"], {},
            {"lex": "deg"}, set(), {"lex"}, 1j, Fraction(1), object(), Odd(), str, len]


def no_unknowns():
    return [0, 5, 6, -1, -4, 100, 10 ** 40, 10 ** 5000, True, False, None, "", "1", "2", b"2", (), (2,), [], [2], {},
            set(), 1j, Fraction(2), object(), Odd(), int]


def is_plain_number(thing):
    return isinstance(thing, int) and not isinstance(thing, bool)


def lists_within(thing):
    """All lists in a thing, through lists and tuples, itself too if it is one; one that stands twice comes twice."""
    found = [thing] if isinstance(thing, list) else []
    if isinstance(thing, (list, tuple)):
        for part in thing:
            found += lists_within(part)
    return found


def refusal_of(action, *arguments):
    """The name of the refusal that comes, or None; every refusal is looked at for its place among the classes."""
    try:
        action(*arguments)
    except errors.AlgebraError as error:
        names = [name for name in REFUSALS if isinstance(error, getattr(errors, name))]
        if len(names) != 1 or not isinstance(error, ValueError):
            raise AssertionError(f"a refusal of {names}") from error
        return names[0]
    return None


def fault_of_sum(ring, many, row):
    """What is wrong with a sum by [2], or None."""
    if not isinstance(row, list):
        return "no list"
    for term in row:
        if not isinstance(term, tuple) or len(term) != 2:
            return f"{term!r} is no pair"
        exponents, number = term
        if not isinstance(exponents, tuple) or len(exponents) != many:
            return f"{exponents!r} are no exponents in {many} unknowns"
        if not all(is_plain_number(exponent) and exponent >= 0 for exponent in exponents):
            return f"{exponents!r} are no exponents"
        if not is_plain_number(number) or number == 0 or (ring and not 0 < number < ring):
            return f"{number!r} is no number of a term over {ring}"
    places = [exponents for exponents, number in row]
    if any(not one > other for one, other in zip(places, places[1:])):
        return "its exponents don't fall strictly"
    return None


def from_dict(ring, numbers):
    """The sum of a dict, each number settled."""
    settled = {exponents: number % ring if ring else number for exponents, number in numbers.items()}
    return sorted(((exponents, number) for exponents, number in settled.items() if number), reverse=True)


def slow_times(ring, ones, others):
    numbers = {}
    for (exponents, number), (more, by) in every_choice(ones, others):
        both = tuple(map(sum, zip(exponents, more)))
        numbers[both] = numbers.get(both, 0) + number * by
    return from_dict(ring, numbers)


def slow_plus(ring, ones, others, factor=1):
    numbers = dict(ones)
    for exponents, number in others:
        numbers[exponents] = numbers.get(exponents, 0) + factor * number
    return from_dict(ring, numbers)


def slow_value(ring, row, point):
    total = 0
    for exponents, number in row:
        for exponent, place in zip(exponents, point):
            number *= place ** exponent
        total += number
    return total % ring if ring else total


def fault_of_row(prime, row):
    """What is wrong with a row by [3], or None."""
    if not isinstance(row, list):
        return "no list"
    for number in row:
        if not is_plain_number(number) or not 0 <= number < prime:
            return f"{number!r} is no number of {prime}"
    if row and row[-1] == 0:
        return "nought at its end"
    return None


def row_from(prime, numbers):
    """The row of any numbers, noughts at the end left out."""
    row = [number % prime for number in numbers]
    while row and row[-1] == 0:
        del row[-1]
    return row


def slow_row_times(prime, *rows):
    """The product of all rows, power by power."""
    product = [1]
    for row in rows:
        numbers = [0] * (len(product) + len(row))
        for power, number in enumerate(product):
            for more, by in enumerate(row):
                numbers[power + more] += number * by
        product = row_from(prime, numbers)
    return product


def slow_row_plus(prime, ones, others, factor=1):
    length = max(len(ones), len(others))
    padded = [list(row) + [0] * (length - len(row)) for row in (ones, others)]
    return row_from(prime, [one + factor * other for one, other in zip(*padded)])


def slow_row_slope(prime, row):
    return row_from(prime, [power * number for power, number in enumerate(row)][1:])


def every_row(prime, most):
    """All rows of fewer than so many numbers, nought among them."""
    for length in range(most):
        for numbers in every_choice(range(prime), repeat=length):
            if not numbers or numbers[-1]:
                yield list(numbers)


def drawn_row(drawn, prime, power):
    """A drawn row of just this power."""
    return [next(drawn) % prime for k in range(power)] + [1 + next(drawn) % (prime - 1)]


def drawn_numbers(seed):
    """A long row of numbers without any order in them, the same ones for each seed."""
    while True:
        seed = (seed * 6364136223846793005 + 1442695040888963407) % 2 ** 64
        yield seed >> 33


def drawn_sum(drawn, ring, many, degree, terms, size=9):
    """A drawn sum of up to so many terms, the exponents of each coming to no more than the degree."""
    numbers = {}
    for term in range(terms):
        exponents = [0] * many
        for k in range(next(drawn) % (degree + 1)):
            exponents[next(drawn) % many] += 1
        numbers[tuple(exponents)] = 1 + next(drawn) % size if next(drawn) % 2 else -1 - next(drawn) % size
    return from_dict(ring, numbers)


def slow_raised(ring, row, count):
    product = row
    for k in range(count - 1):
        product = slow_times(ring, product, row)
    return product


def slow_slope(ring, row, unknown):
    numbers = {}
    for exponents, number in row:
        if exponents[unknown]:
            less = exponents[:unknown] + (exponents[unknown] - 1,) + exponents[unknown + 1:]
            numbers[less] = number * exponents[unknown]
    return from_dict(ring, numbers)


def slow_content(row):
    return gcd(*[number for exponents, number in row])


def fault_of_papers(many, ones, others_by_unknown, papers):
    """What is wrong with the papers (u, v, c) of [26] and [27] for ones and one other sum for each unknown, or None."""
    if not isinstance(papers, list) or len(papers) != many:
        return "not one for each unknown"
    for unknown, paper in enumerate(papers):
        if not isinstance(paper, tuple) or len(paper) != 3:
            return f"no triple for {unknown}"
        faults = [fault_of_sum(0, many, part) for part in paper]
        if any(faults):
            return f"{faults} for {unknown}"
        u, v, c = paper
        if slow_plus(0, slow_times(0, u, ones), slow_times(0, v, others_by_unknown[unknown])) != c:
            return f"it doesn't come to c for {unknown}"
        if not c or any(exponents[unknown] for exponents, number in c):
            return f"c is nought or has the unknown {unknown}"
    return None


def standing_of(order, exponents):
    return ((sum(exponents),) if order == "deg" else ()) + tuple(exponents)


def lead_of(order, row):
    return max(row, key=lambda term: standing_of(order, term[0]))


def all_divide(one, other):
    return all(a <= b for a, b in zip(one, other))


def slow_combined(ring, factors, rows):
    """All rows, each times its factor, together."""
    total = []
    for factor, row in zip(factors, rows):
        total = slow_plus(ring, total, slow_times(ring, factor, row))
    return total


def fault_of_quotients(prime, order, many, quotients, rows, top):
    """What is wrong with a list of a sum for each row whose products may not stand higher than top, or None."""
    if not isinstance(quotients, list) or len(quotients) != len(rows):
        return "not one for each"
    for quotient, row in zip(quotients, rows):
        if fault_of_sum(prime, many, quotient):
            return fault_of_sum(prime, many, quotient)
        if quotient:
            parts = [lead_of(order, quotient)[0], lead_of(order, row)[0]]
            place = tuple(map(sum, zip(*parts)))
            if top is None or standing_of(order, place) > standing_of(order, top):
                return "a product stands too high"
    return None


def drawn_boxed(drawn, prime, many, highest, terms):
    """A drawn sum of up to so many terms, each exponent to highest."""
    numbers = {}
    for term in range(terms):
        numbers[tuple(next(drawn) % (highest + 1) for k in range(many))] = 1 + next(drawn) % (prime - 1)
    return from_dict(prime, numbers)


# Count of unknowns, greatest exponent and most terms, as [32] names them.
BASE_SIZES = ((1, 8, 9), (2, 4, 8), (3, 2, 6))


def drawn_given(drawn, prime, size, count):
    """So many drawn sums of two terms or more."""
    many, highest, terms = size
    return [drawn_boxed(drawn, prime, many, highest, 2 + next(drawn) % (terms - 1)) for k in range(count)]


def each_exponents(many, highest):
    return every_choice(range(highest + 1), repeat=many)


def sample_sums(ring, many):
    """Sums of 0 to 9 terms, the same ones each time, small and great numbers and exponents among them."""
    seed = 12345 + 7 * many + ring
    sums = [[]]
    for length in (1, 1, 2, 3, 5, 9):
        numbers = {}
        for place in range(length):
            seed = (seed * 1103515245 + 12345) % 2 ** 31
            exponents = tuple((seed >> (4 + 3 * k)) % (100 if seed % 5 == 0 else 4) for k in range(many))
            seed = (seed * 1103515245 + 12345) % 2 ** 31
            number = (seed >> 8) % 19 - 9
            numbers[exponents] = number * 10 ** 41 + 7 if seed % 7 == 0 else number
        sums.append(from_dict(ring, numbers))
    sums.append(from_dict(ring, {(0,) * many: 1}))
    sums.append(from_dict(ring, {(0,) * many: -1}))
    sums.append(from_dict(ring, {(99,) * many: -3, (0,) * many: 4}))
    return sums
