"""Lists of rows of numbers over a prime, all of one width, by Gauss's steps."""

from polyring.numbers import inverse


# Rows in steps by their first numbers, so many as width tells: (rows, places), where the first rows, one for each
# place, have 1 at their place, at which all others have 0, and the rows behind them noughts up to width.
def stepped(prime, rows, width):
    done = []
    left = rows
    places = []
    for column in range(width):
        found = [row for row in left if row[column] != 0]
        if len(found) > 0:
            back = inverse(prime, found[0][column])
            step = [number * back % prime for number in found[0]]
            left = cleared(prime, found[1:] + [row for row in left if row[column] == 0], step, column)
            done = cleared(prime, done, step, column) + [step]
            places.append(column)
    return (done + left, places)


def cleared(prime, rows, step, column):
    return [without_column(prime, row, step, column) for row in rows]


def without_column(prime, row, step, column):
    factor = row[column]
    return [(one - factor * other) % prime for one, other in zip(row, step)]


# Behind each row 1 at its own place and noughts at those of the others: there it shows what was done to the rows.
def with_units(rows):
    return [list(row) + unit_row(place, len(rows)) for place, row in enumerate(rows)]


def unit_row(place, length):
    return [1 if k == place else 0 for k in range(length)]


# The lists of factors that take rows, each so often, to nought, from which all such lists are made.
def ways_to_nought(prime, rows, width):
    answer = stepped(prime, with_units(rows), width)
    return [row[width:] for row in answer[0][len(answer[1]):]]


# The table of width lists that makes units of rows, or None where there is none. Rows in steps have 1 alone at their
# places, so at these stands what was done to the rows, and noughts at all others.
def table_to_units(prime, rows, width):
    answer = stepped(prime, with_units(rows), width)
    if len(answer[1]) < len(rows):
        return None
    table = [[0] * len(rows) for column in range(width)]
    for place, column in enumerate(answer[1]):
        table[column] = answer[0][place][width:]
    return table
