"""Papers: what two sums over the whole numbers make that lacks an unknown, and how they make it."""

from polyring.divisors import content_in, content_of, greatest_sum, over_number
from polyring.mains import power_in, quotient_if_whole
from polyring.numbers import greatest_number
from polyring.points import bounds_of_sides, paper_from_grid, sides_of
from polyring.rests import paper_by_rests
from polyring.sums import constant, times

# One for each unknown, far from one another, so that hardly a resultant comes to nought where they stand.
FIRST_BASES = (11, 103, 1009, 10007)


# (u, v, c): u times ones and v times others come to c, which isn't nought and lacks the unknown. One of the two may be
# nought; no sum with the unknown divides both.
def paper_of(ones, others, unknown):
    number = constant(0, len((ones + others)[0][0]), 1)
    if power_in(ones, unknown) == 0:
        return (number, [], list(ones))
    if power_in(others, unknown) == 0:
        return ([], number, list(others))
    own = content_in(ones, unknown)
    their = content_in(others, unknown)
    paper = paper_of_bare(quotient_if_whole(ones, own), quotient_if_whole(others, their), unknown)
    both = greatest_sum(own, their)
    beyond = quotient_if_whole(own, both)
    left = times(0, paper[0], quotient_if_whole(their, both))
    return lowered_paper(left, times(0, paper[1], beyond), times(0, paper[2], times(0, beyond, their)))


def lowered_paper(left, right, made):
    number = greatest_number([content_of(left), content_of(right)])
    return (over_number(left, number), over_number(right, number), over_number(made, number))


# Both have the unknown, and no sum without it divides one of them. Rests do where the sums have few terms for their
# degrees; else they grow beyond measure, and the work at the points of a grid does not.
def paper_of_bare(ones, others, unknown):
    size = 1
    for bound in bounds_of_sides(ones, others, unknown):
        size = size * (bound + 1)
    paper = paper_by_rests(ones, others, unknown, size)
    bases = [FIRST_BASES[side] for side in sides_of(ones, unknown)]
    while paper is None:
        paper = paper_from_grid(ones, others, unknown, bases)
        bases = [3 * base + 1 for base in bases]
    return paper
