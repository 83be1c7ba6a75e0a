"""Exponents: which ones stand higher by an order, and how they divide one another."""

from polyring.errors import NoLead, NoOrder

ORDERS = ("lex", "deg")


# Looked at for its kind first: another thing might call itself equal to a text.
def is_order(thing):
    return isinstance(thing, str) and thing in ORDERS


def check_order(order):
    if not is_order(order):
        raise NoOrder("an order is lex or deg")


# A tuple that stands among its like as the exponents stand by the order.
def standing(order, exponents):
    return exponents if order == "lex" else (sum(exponents),) + exponents


def higher(order, one, other):
    check_order(order)
    return standing(order, one) > standing(order, other)


def lead(order, row):
    check_order(order)
    if len(row) == 0:
        raise NoLead("nought has no highest term")
    return max(row, key=lambda term: standing(order, term[0]))


def divides(one, other):
    return all([mine <= theirs for mine, theirs in zip(one, other)])


def least(one, other):
    return tuple([max(mine, theirs) for mine, theirs in zip(one, other)])


def less(one, other):
    return tuple([mine - theirs for mine, theirs in zip(one, other)])
