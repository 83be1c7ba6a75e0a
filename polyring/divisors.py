"""The greatest sum over the whole numbers that divides two: found where a great number stands for an unknown."""

from polyring.mains import part_in, power_in, quotient_if_whole, with_power
from polyring.numbers import greatest_number
from polyring.orders import less
from polyring.sums import joined, sum_of_totals


def content_of(row):
    return greatest_number([number for exponents, number in row])


# The sum or less it, whichever is upright.
def upright(row):
    return less_it(row) if len(row) > 0 and row[0][1] < 0 else list(row)


def less_it(row):
    return [(exponents, -number) for exponents, number in row]


def over_number(row, number):
    return [(exponents, own // number) for exponents, own in row]


# The exponents of all unknowns that stand in each term alike.
def lowest_exponents(row):
    return tuple([min([exponents[place] for exponents, number in row]) for place in range(len(row[0][0]))])


def times_term(row, exponents, number):
    return [(joined(own, exponents), own_number * number) for own, own_number in row]


# Neither is nought; the answer is upright. Numbers and unknowns that stand in all terms are looked at by themselves, so
# that sums of one term need nothing more, whatever their exponents.
def greatest_sum(ones, others):
    number = greatest_number([content_of(ones), content_of(others)])
    low_one = lowest_exponents(ones)
    low_other = lowest_exponents(others)
    low = tuple([min(pair) for pair in zip(low_one, low_other)])
    greatest = greatest_bare(bare(ones, low_one), bare(others, low_other))
    return times_term(greatest, low, number)


def bare(row, low):
    number = content_of(row)
    return [(less(exponents, low), own // number) for exponents, own in row]


# Of sums of content 1 that no unknown divides. The greatest divisor of what they come to where a number beyond twice
# their own stands for an unknown, written by digits of that number, is the one looked for, if it divides both; it does
# for all numbers that are great enough, but a few.
def greatest_bare(ones, others):
    if len(ones) == 1 or len(others) == 1:
        return [((0,) * len(ones[0][0]), 1)]
    unknown = first_unknown(ones, others)
    place = 2 * min(greatest_size(ones), greatest_size(others)) + 29
    while True:
        found = greatest_at(ones, others, unknown, place)
        if found is not None:
            return found
        place = place * 73794 // 27011


def greatest_size(row):
    return max([abs(number) for exponents, number in row])


def first_unknown(ones, others):
    return min([place for place in range(len(ones[0][0])) if max(power_in(ones, place), power_in(others, place)) > 0])


def greatest_at(ones, others, unknown, place):
    one = at_place(ones, unknown, place)
    other = at_place(others, unknown, place)
    if len(one) == 0 or len(other) == 0:
        return None
    written = by_digits(greatest_sum(one, other), unknown, place)
    found = upright(over_number(written, content_of(written)))
    if quotient_if_whole(ones, found) is None or quotient_if_whole(others, found) is None:
        return None
    return found


# The sum where the number stands for the unknown, whose exponents are 0 from then on.
def at_place(row, unknown, number):
    powers = [1]
    for power in range(power_in(row, unknown)):
        powers.append(powers[-1] * number)
    totals = {}
    for exponents, own in row:
        bare_exponents = with_power(exponents, unknown, 0)
        totals[bare_exponents] = totals.get(bare_exponents, 0) + own * powers[exponents[unknown]]
    return sum_of_totals(0, totals)


# The sum that comes to the row where the number stands for the unknown, its own numbers as small as can be.
def by_digits(row, unknown, number):
    totals = {}
    for exponents, own in row:
        left = own
        power = 0
        while left != 0:
            digit = (left + number // 2) % number - number // 2
            totals[with_power(exponents, unknown, power)] = digit
            left = (left - digit) // number
            power += 1
    return sum_of_totals(0, totals)


# The greatest sum without the unknown that divides the row, which is not nought.
def content_in(row, unknown):
    parts = [part_in(row, unknown, power) for power in range(power_in(row, unknown) + 1)]
    answer = []
    for part in sorted([part for part in parts if len(part) > 0], key=len):
        answer = upright(part) if len(answer) == 0 else greatest_sum(answer, part)
        if len(answer) == 1 and answer[0][1] == 1 and max(answer[0][0]) == 0:
            return answer
    return answer
