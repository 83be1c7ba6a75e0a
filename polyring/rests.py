"""What two sums over the whole numbers make that lacks an unknown, by taking rests, while the sums stay short."""

from polyring.mains import main_in, power_in, quotient_if_whole, rest_in
from polyring.sums import constant, minus, power_of_number, raised, times


# (u, v, c) with u times ones and v times others equal to c, which lacks the unknown; both sums have it. None where a
# step would take more than about limit products of terms.
def paper_by_rests(ones, others, unknown, limit):
    number = constant(0, len(ones[0][0]), 1)
    pairs = [(ones, number), (others, [])]
    swapped = power_in(ones, unknown) < power_in(others, unknown)
    upper = pairs[1] if swapped else pairs[0]
    lower = pairs[0] if swapped else pairs[1]
    factor = number
    height = number
    while power_in(lower[0], unknown) > 0:
        if products_of_step(upper, lower, unknown) > limit:
            return None
        steps = power_in(upper[0], unknown) - power_in(lower[0], unknown)
        divisor = factor if steps == 0 else times(0, factor, raised(0, height, steps))
        following = pair_of_rest(upper, lower, unknown, divisor)
        upper = lower
        lower = following
        factor = main_in(upper[0], unknown)
        height = next_height_of_sums(factor, height, steps)
    right = quotient_if_whole(minus(0, lower[0], times(0, lower[1], ones)), others)
    return (lower[1], right, lower[0])


# Each pair is a sum and what makes it of ones, but for multiples of others.
def products_of_step(upper, lower, unknown):
    steps = power_in(upper[0], unknown) - power_in(lower[0], unknown) + 1
    factor = power_of_number(0, len(main_in(lower[0], unknown)), steps)
    return factor * (len(upper[0]) + len(upper[1])) + steps * len(upper[0]) * (len(lower[0]) + len(lower[1]))


# The subresultants' way, as for numbers: the divisor divides all, so that the sums grow no more than they must.
def pair_of_rest(upper, lower, unknown, divisor):
    rest = rest_in(upper[0], lower[0], unknown)
    made = minus(0, times(0, rest[0], upper[1]), times(0, rest[1], lower[1]))
    return (quotient_if_whole(rest[2], divisor), quotient_if_whole(made, divisor))


# So many factors, over one fewer heights.
def next_height_of_sums(factor, height, steps):
    if steps < 2:
        return height if steps == 0 else factor
    return quotient_if_whole(raised(0, factor, steps), raised(0, height, steps - 1))
