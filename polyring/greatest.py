"""The greatest sum over the whole numbers that divides two, with papers that there is no greater one."""

from polyring.divisors import content_of, greatest_sum, upright
from polyring.errors import NoMeet
from polyring.mains import quotient_if_whole
from polyring.papers import paper_of


def content(row):
    return content_of(row)


def common(ones, others):
    found = common_parts(ones, others)
    papers = [paper_of(found[1], found[2], unknown) for unknown in range(len(found[0][0][0]))]
    return (found[0], found[1], found[2], papers)


# The (g, s, t) of common.
def common_parts(ones, others):
    if len(ones) == 0 and len(others) == 0:
        raise NoMeet("two noughts have no greatest divisor")
    if len(ones) == 0 or len(others) == 0:
        greatest = upright(ones + others)
    else:
        greatest = greatest_sum(ones, others)
    return (greatest, quotient_if_whole(ones, greatest), quotient_if_whole(others, greatest))
