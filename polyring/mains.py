"""Sums over the whole numbers as sums in one unknown: powers, mains, rests and quotients."""

from polyring.errors import ByNought, NotWhole
from polyring.orders import divides, less
from polyring.sums import constant, joined, minus, plus, raised, times


def power_in(row, unknown):
    return max([exponents[unknown] for exponents, number in row], default=-1)


def main_in(row, unknown):
    return part_in(row, unknown, power_in(row, unknown))


# What stands beside the unknown's power. Its terms have one exponent there, so their order stays as it is.
def part_in(row, unknown, power):
    return [(with_power(exponents, unknown, 0), number) for exponents, number in row if exponents[unknown] == power]


def with_power(exponents, unknown, power):
    return exponents[:unknown] + (power,) + exponents[unknown + 1:]


def rest_in(row, by, unknown):
    if len(by) == 0:
        raise ByNought("no rest is left by nought")
    main = main_in(by, unknown)
    left = power_in(row, unknown) - power_in(by, unknown) + 1
    factor = raised(0, main, left) if left > 0 else constant(0, len(by[0][0]), 1)
    quotient_row = []
    rest = list(row)
    while power_in(rest, unknown) >= power_in(by, unknown):
        step = lifted(main_in(rest, unknown), unknown, power_in(rest, unknown) - power_in(by, unknown))
        quotient_row = plus(0, times(0, main, quotient_row), step)
        rest = minus(0, times(0, main, rest), times(0, step, by))
        left -= 1
    if left > 0:
        missing = raised(0, main, left)
        quotient_row = times(0, missing, quotient_row)
        rest = times(0, missing, rest)
    return (factor, quotient_row, rest)


def lifted(row, unknown, power):
    return [(with_power(exponents, unknown, exponents[unknown] + power), number) for exponents, number in row]


def quotient(row, by):
    if len(by) == 0:
        raise ByNought("no sum is divided by nought")
    answer = quotient_if_whole(row, by)
    if answer is None:
        raise NotWhole("no sum makes the first one of the second")
    return answer


# None where there is no quotient; by is not nought. The highest term that is left tells the quotient's next one.
def quotient_if_whole(row, by):
    left = dict(row)
    answer = []
    while len(left) > 0:
        top = max(left)
        if not divides(by[0][0], top) or left[top] % by[0][1] != 0:
            return None
        step = (less(top, by[0][0]), left[top] // by[0][1])
        answer.append(step)
        take_multiple(left, by, step)
    return answer


def take_multiple(left, by, step):
    for exponents, number in by:
        place = joined(exponents, step[0])
        rest = left.get(place, 0) - step[1] * number
        if rest == 0:
            left.pop(place)
        else:
            left[place] = rest
