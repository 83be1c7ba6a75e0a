"""Sums as texts: writing them, and reading what is written just so."""

from polyring.errors import NotWritten
from polyring.numbers import check_ring
from polyring.sums import check_unknowns, made

LETTERS = ("x", "y", "z", "w")
SIGNS = ("+", "-")
FIGURES = "0123456789"
MOST_EXPONENT_FIGURES = 2


def shown(row):
    if len(row) == 0:
        return "0"
    pieces = []
    for exponents, number in row:
        pieces.append(sign_text(len(pieces) == 0, number))
        pieces.append(term_text(exponents, abs(number)))
    return "".join(pieces)


def sign_text(is_first, number):
    if is_first:
        return "-" if number < 0 else ""
    return " - " if number < 0 else " + "


def term_text(exponents, size):
    powers = [power_text(LETTERS[place], exponent) for place, exponent in enumerate(exponents) if exponent != 0]
    if size != 1 or len(powers) == 0:
        return "*".join([str(size)] + powers)
    return "*".join(powers)


def power_text(letter, exponent):
    return letter if exponent == 1 else f"{letter}^{exponent}"


# What is read too gladly here and there shows at the end: only what is written of a sum comes back as it was.
def read(ring, many, text):
    check_ring(ring)
    check_unknowns(many)
    row = made(ring, many, pairs_written(many, text))
    if shown(row) != text:
        raise NotWritten("a text is what is written of a sum, sign by sign")
    return row


def pairs_written(many, text):
    first_sign = "-" if text.startswith("-") else "+"
    words = (text[1:] if first_sign == "-" else text).split(" ")
    if len(words) % 2 == 0:
        raise NotWritten("terms have a sign between each two, and blanks only round it")
    signs = [first_sign] + words[1::2]
    return [pair_written(many, sign, word) for sign, word in zip(signs, words[::2])]


# A letter that stands twice is taken as it stands last: no text of a sum has one, so it is refused at the end.
def pair_written(many, sign, word):
    if sign not in SIGNS:
        raise NotWritten("between two terms stands + or -")
    number = -1 if sign == "-" else 1
    exponents = [0] * many
    for factor in word.split("*"):
        if are_figures(factor):
            number = number * int(factor)
        else:
            exponents[place_of_letter(many, factor[:1])] = exponent_written(factor[1:])
    return (tuple(exponents), number)


def are_figures(text):
    return len(text) > 0 and all([sign in FIGURES for sign in text])


def place_of_letter(many, letter):
    for place in range(many):
        if LETTERS[place] == letter:
            return place
    raise NotWritten("a term is of figures and of the letters of the unknowns")


def exponent_written(text):
    if text == "":
        return 1
    figures = text[1:]
    if text[0] != "^" or not are_figures(figures) or len(figures) > MOST_EXPONENT_FIGURES:
        raise NotWritten("behind a letter stands nothing, or ^ and an exponent to 99")
    return int(figures)
