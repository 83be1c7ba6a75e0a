"""What two sums over the whole numbers make that lacks an unknown, told by what they make at the points of a grid."""

from polyring.grids import grid_places, numbers_of_terms
from polyring.ladders import resultant_with_paper
from polyring.mains import power_in
from polyring.sums import sum_of_totals


# The unknowns other than this one.
def sides_of(row, unknown):
    return [side for side in range(len(row[0][0])) if side != unknown]


# For each side the greatest exponent that it has in the resultant of both and in what makes it.
def bounds_of_sides(ones, others, unknown):
    return [greatest_degree(ones, others, unknown, [side]) for side in sides_of(ones, unknown)]


# No term of the resultant, nor of what makes it, has a greater sum of these sides' exponents: the resultant is a sum of
# products of as many parts of ones as others' power tells, and the other way round; and parts that stand beside high
# powers of the unknown have so much lower exponents, if all of a term together have a bound.
def greatest_degree(ones, others, unknown, sides):
    one_power = power_in(ones, unknown)
    other_power = power_in(others, unknown)
    alone = other_power * degree_in(ones, sides) + one_power * degree_in(others, sides)
    wider = sides + [unknown]
    together = other_power * degree_in(ones, wider) + one_power * degree_in(others, wider)
    return min(alone, together - one_power * other_power)


def degree_in(row, sides):
    return max([sum([exponents[side] for side in sides]) for exponents, number in row])


# (u, v, c) with u times ones and v times others equal to c, their resultant; both have the unknown. bases has a number
# for each side, from which on it stands. None where one of the places doesn't do: where a sum has a lower power of the
# unknown than elsewhere, or where both come to sums in it that have a common divisor.
def paper_from_grid(ones, others, unknown, bases):
    sides = sides_of(ones, unknown)
    bounds = bounds_of_sides(ones, others, unknown)
    tables = []
    for base, bound, side in zip(bases, bounds, sides):
        tables.append(powers_from(base, bound + 1, power_in(ones + others, side)))
    values = {}
    for place in grid_places(bounds, greatest_degree(ones, others, unknown, sides)):
        powers = [table[number] for table, number in zip(tables, place)]
        one = numbers_at(ones, unknown, sides, powers)
        other = numbers_at(others, unknown, sides, powers)
        found = resultant_with_paper(one, other) if one[-1] != 0 and other[-1] != 0 else None
        if found is None:
            return None
        values[place] = [found[0]] + found[1] + found[2]
    return paper_of_numbers(numbers_of_terms(values, bases), unknown, power_in(others, unknown))


# For each of so many numbers from base on the list of its powers up to the greatest.
def powers_from(base, count, greatest):
    tables = []
    for number in range(base, base + count):
        powers = [1]
        for exponent in range(greatest):
            powers.append(powers[-1] * number)
        tables.append(powers)
    return tables


# The numbers beside the unknown's powers where the sides have these powers.
def numbers_at(row, unknown, sides, powers):
    numbers = [0] * (power_in(row, unknown) + 1)
    for exponents, number in row:
        value = number
        for side, table in zip(sides, powers):
            value = value * table[exponents[side]]
        numbers[exponents[unknown]] += value
    return numbers


# At each place stand the numbers of c, of u by the unknown's powers, of which there are so many, and of v likewise.
def paper_of_numbers(numbers, unknown, many):
    made = {}
    left = {}
    right = {}
    for place, entry in numbers.items():
        made[exponents_with(place, unknown, 0)] = entry[0]
        for power in range(many):
            left[exponents_with(place, unknown, power)] = entry[1 + power]
        for power in range(len(entry) - 1 - many):
            right[exponents_with(place, unknown, power)] = entry[1 + many + power]
    return (sum_of_totals(0, left), sum_of_totals(0, right), sum_of_totals(0, made))


def exponents_with(place, unknown, power):
    return place[:unknown] + (power,) + place[unknown:]
