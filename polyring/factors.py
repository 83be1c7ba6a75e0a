"""The whole rows that a row is the product of, and the paper that a row is whole."""

from polyring.dividing import greatest_row, parted
from polyring.errors import NotPlain
from polyring.numbers import check_prime
from polyring.rows import row_of_rests, row_product, row_with_multiple, with_noughts
from polyring.spaces import table_to_units, ways_to_nought
from polyring.squares import paper_of_row, parts_of_row


def factors(prime, row):
    check_prime(prime)
    pair = parts_of_row(prime, row)
    found = []
    for part, many in pair[1]:
        found.extend([(factor, many) for factor in whole_rows(prime, part)])
    return (pair[0], sorted(found, key=lambda entry: (len(entry[0]), entry[0])))


# Of a plain row that nothing divides twice. A row of a lower power that is its own prime-th power, but for multiples of
# this row, comes to one number at each whole part; the rows of that kind have as many dimensions as there are parts.
def whole_rows(prime, row):
    rests = powers_of_prime(prime, row)[1]
    found = [row]
    for ways in ways_to_nought(prime, changes_by_prime(prime, rests, 0), len(row) - 1):
        found = split_by(prime, found, ways)
    return found


def split_by(prime, rows, even):
    answer = []
    for row in rows:
        answer.extend(parts_at_numbers(prime, row, even))
    return answer


def parts_at_numbers(prime, row, even):
    below = parted(prime, row_of_rests(prime, even), row)[1]
    found = []
    for number in range(prime):
        part = greatest_row(prime, row, row_with_multiple(prime, below, [number], -1))
        if len(part) > 1:
            found.append(part)
    return found


# The pair (quotients, rests) of the powers 0, prime, 2 * prime .. below the row's power times the prime.
def powers_of_prime(prime, row):
    quotients = [[]]
    rests = [[1]]
    for k in range(1, len(row) - 1):
        upper = [0] * prime + [1] if k == 1 else row_product(prime, rests[k - 1], rests[1])
        pair = parted(prime, upper, row)
        quotients.append(pair[0])
        rests.append(pair[1])
    return (quotients, rests)


# The numbers of each rest, from the one at the place first on, less 1 at the power that is its place.
def changes_by_prime(prime, rests, first):
    changes = []
    for place in range(first, len(rests)):
        change = row_with_multiple(prime, rests[place], [0] * place + [1], -1)
        changes.append(with_noughts(change, len(rests)))
    return changes


def unsplit(prime, row):
    check_prime(prime)
    if len(row) < 2 or row[-1] != 1:
        raise NotPlain("only a plain row of the power 1 or more can be whole")
    paper = paper_of_row(prime, row)
    if paper is None:
        return None
    pair = powers_of_prime(prime, row)
    table = table_to_units(prime, changes_by_prime(prime, pair[1], 1), len(row) - 1)
    return None if table is None else (paper[0], paper[1], pair[0], pair[1], table)
