"""Rows: sums in one unknown over a prime, as lists of numbers with that of the power 0 first."""

from polyring.numbers import check_prime


# The row of any whole numbers, for callers that have looked at the prime already, as all below that look at nothing.
def row_of_rests(prime, numbers):
    row = [number % prime for number in numbers]
    while len(row) > 0 and row[-1] == 0:
        row.pop()
    return row


def row_with_multiple(prime, ones, others, factor):
    length = max(len(ones), len(others))
    longer = with_noughts(ones, length)
    return row_of_rests(prime, [one + factor * other for one, other in zip(longer, with_noughts(others, length))])


def with_noughts(row, length):
    return list(row) + [0] * (length - len(row))


def row_product(prime, ones, others):
    if len(ones) == 0 or len(others) == 0:
        return []
    numbers = [0] * (len(ones) + len(others) - 1)
    for power, number in enumerate(ones):
        for more, other in enumerate(others):
            numbers[power + more] += number * other
    return row_of_rests(prime, numbers)


def row_multiple(prime, row, factor):
    return row_of_rests(prime, [number * factor for number in row])


def slope_of_row(prime, row):
    return row_of_rests(prime, [power * row[power] for power in range(1, len(row))])


def row_made(prime, numbers):
    check_prime(prime)
    return row_of_rests(prime, numbers)


def row_plus(prime, ones, others):
    check_prime(prime)
    return row_with_multiple(prime, ones, others, 1)


def row_minus(prime, ones, others):
    check_prime(prime)
    return row_with_multiple(prime, ones, others, -1)


def row_times(prime, ones, others):
    check_prime(prime)
    return row_product(prime, ones, others)


def row_scaled(prime, row, number):
    check_prime(prime)
    return row_multiple(prime, row, number)


def row_value(prime, row, place):
    check_prime(prime)
    total = 0
    for number in reversed(row):
        total = (total * place + number) % prime
    return total


def row_slope(prime, row):
    check_prime(prime)
    return slope_of_row(prime, row)


def row_of(ones):
    if len(ones) == 0:
        return []
    row = [0] * (ones[0][0][0] + 1)
    for exponents, number in ones:
        row[exponents[0]] = number
    return row


def sum_of(row):
    return [((power,), row[power]) for power in range(len(row) - 1, -1, -1) if row[power] != 0]
