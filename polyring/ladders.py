"""Sums in one unknown with whole numbers, as lists with that of the power 0 first: what two of them make without it."""

from polyring.sums import power_of_number


# Of two lists of the powers 1 or more: (r, u, v) with u times ones and v times others equal to the number r, their
# resultant, which is a sum of products of their numbers; so are all numbers of u and v. u has as many numbers as the
# power of others tells, v as that of ones. None where r is nought.
def resultant_with_paper(ones, others):
    swapped = len(ones) < len(others)
    upper = (others, []) if swapped else (ones, [1])
    lower = (ones, [1]) if swapped else (others, [])
    sign = odd_sign(ones, others) if swapped else 1
    factor = 1
    height = 1
    while len(lower[0]) > 1:
        steps = len(upper[0]) - len(lower[0])
        sign = sign * odd_sign(upper[0], lower[0])
        following = pair_below(upper, lower, factor * power_of_number(0, height, steps))
        upper = lower
        lower = following
        if len(lower[0]) == 0:
            return None
        factor = upper[0][-1]
        height = next_height(factor, height, steps)
    number = lower[0][0]
    resultant = sign * next_height(number, height, len(upper[0]) - 1)
    left = with_length([own * resultant // number for own in lower[1]], len(others) - 1)
    right = whole_quotient(with_multiple_of([resultant], -1, product_of(left, ones)), others)
    return (resultant, left, right)


def odd_sign(ones, others):
    return -1 if len(ones) % 2 == 0 and len(others) % 2 == 0 else 1


# So many factors, over one fewer heights.
def next_height(factor, height, steps):
    if steps == 0:
        return height
    return power_of_number(0, factor, steps) // power_of_number(0, height, steps - 1)


# Each pair is a list and what makes it of ones, but for multiples of others. The subresultants' way: all numbers of
# the pair below can be divided by this divisor, so they stay small.
def pair_below(upper, lower, divisor):
    steps = len(upper[0]) - len(lower[0])
    top = lower[0][-1]
    rest = upper[0]
    made = upper[1]
    for shift in range(steps, -1, -1):
        often = rest[shift + len(lower[0]) - 1]
        rest = with_multiple_of([top * number for number in rest], -often, [0] * shift + lower[0])[:-1]
        made = with_multiple_of([top * number for number in made], -often, [0] * shift + lower[1])
    return (trimmed([number // divisor for number in rest]), [number // divisor for number in made])


def trimmed(numbers):
    length = len(numbers)
    while length > 0 and numbers[length - 1] == 0:
        length -= 1
    return numbers[:length]


def with_length(numbers, length):
    return numbers[:length] + [0] * (length - len(numbers))


def with_multiple_of(ones, factor, others):
    length = max(len(ones), len(others))
    longer = with_length(ones, length)
    return [one + factor * other for one, other in zip(longer, with_length(others, length))]


# Of lists that aren't empty.
def product_of(ones, others):
    numbers = [0] * (len(ones) + len(others) - 1)
    for power, number in enumerate(ones):
        for more, other in enumerate(others):
            numbers[power + more] += number * other
    return numbers


# Where there is a quotient with whole numbers.
def whole_quotient(row, by):
    rest = list(row)
    steps = len(row) - len(by) + 1
    numbers = [0] * steps
    for shift in range(steps - 1, -1, -1):
        often = rest[shift + len(by) - 1] // by[-1]
        numbers[shift] = often
        for power, number in enumerate(by):
            rest[shift + power] -= often * number
    return numbers
