"""Sums told by what they come to at the points of a grid: each unknown from a base number on, one by one.

The places of a grid are tuples of whole numbers from 0 on, and with each place all lower ones are in it. At each place
lies a list of numbers, that of one sum at each place of the list.
"""

from polyring.mains import with_power


# All places below the bounds, one for each unknown, whose numbers come to no more than total.
def grid_places(bounds, total):
    places = [()]
    for bound in bounds:
        longer = []
        for place in places:
            longer.extend([place + (number,) for number in range(min(bound, total - sum(place)) + 1)])
        places = longer
    return places


# From what sums come to at the places to the numbers of their terms, by places too. The sums have no other exponents.
def numbers_of_terms(values, bases):
    found = values
    for side in range(len(bases)):
        found = changed_lines(found, side, differences_of_line)
    for side in range(len(bases)):
        base = bases[side]
        found = changed_lines(found, side, lambda line: powers_of_line(line, base))
    return found


def changed_lines(values, side, change):
    lines = {}
    for place in sorted(values):
        lines.setdefault(with_power(place, side, 0), []).append(values[place])
    changed = {}
    for start, line in lines.items():
        for number, entry in enumerate(change(line)):
            changed[with_power(start, side, number)] = entry
    return changed


# Newton's differences: the numbers beside 1, (x - base), (x - base)(x - base - 1) .., all whole where the sum's are.
def differences_of_line(line):
    answer = list(line)
    for step in range(1, len(line)):
        for place in range(len(line) - 1, step - 1, -1):
            answer[place] = [(one - other) // step for one, other in zip(answer[place], answer[place - 1])]
    return answer


# From the numbers beside Newton's products to those beside powers.
def powers_of_line(line, base):
    answer = list(line)
    for step in range(len(line) - 2, -1, -1):
        for place in range(step, len(line) - 1):
            shift = base + step
            answer[place] = [one - shift * other for one, other in zip(answer[place], answer[place + 1])]
    return answer
