"""Questions to sums over a prime: what they make, whether others make the same, what is made without some unknowns."""

from polyring.bases import check_sums
from polyring.errors import NoCount
from polyring.numbers import check_prime
from polyring.orders import check_order
from polyring.reducing import reduced_by
from polyring.spans import Span
from polyring.sums import is_whole_within, minus


def member(prime, order, given, row):
    check_prime(prime)
    check_order(order)
    check_sums(given)
    span = Span(prime, given)
    rest = reduced_by(prime, order, row, span.rows_by(order))[1]
    return (len(rest) == 0, span.ways_to(minus(prime, row, rest)), rest)


# Of each list there is just one base by an order, whichever the order is.
def same(prime, given, others):
    check_prime(prime)
    check_sums(given)
    check_sums(others)
    return Span(prime, given).rows_by("deg") == Span(prime, others).rows_by("deg")


def without(prime, given, count):
    check_prime(prime)
    check_sums(given)
    rows = Span(prime, given).rows_by("lex")
    if len(rows) == 0:
        return []
    if not is_whole_within(count, 0, len(rows[0][0][0]) - 1):
        raise NoCount("so many unknowns can't be left out")
    return [row for row in rows if lacks_first(row, count)]


def lacks_first(row, count):
    return all([sum(exponents[:count]) == 0 for exponents, number in row])
