"""Promise [16], and of [4] what is refused first."""

import unittest

from polyring.notes import read, shown
from things import (SAMPLE_RINGS, drawn_numbers, fault_of_sum, from_dict, is_plain_number, no_rings, no_unknowns,
                    refusal_of, sample_sums)

FIFTY = 12345678901234567890123456789012345678901234567890
SIXTY = 10 ** 60 - 1

# Texts of sums over the whole numbers, with their count of unknowns.
WRITTEN = (
    (1, "0", []),
    (2, "0", []),
    (3, "0", []),
    (4, "0", []),
    (1, "5", [((0,), 5)]),
    (1, "-5", [((0,), -5)]),
    (4, "1", [((0, 0, 0, 0), 1)]),
    (4, "-1", [((0, 0, 0, 0), -1)]),
    (2, "10", [((0, 0), 10)]),
    (1, "x", [((1,), 1)]),
    (1, "-x", [((1,), -1)]),
    (1, "2*x", [((1,), 2)]),
    (1, "-2*x", [((1,), -2)]),
    (1, "x^2", [((2,), 1)]),
    (1, "-x^2", [((2,), -1)]),
    (1, "x^10", [((10,), 1)]),
    (1, "x^99", [((99,), 1)]),
    (1, "11*x^11", [((11,), 11)]),
    (1, "x + 1", [((1,), 1), ((0,), 1)]),
    (1, "x - 1", [((1,), 1), ((0,), -1)]),
    (1, "-x + 1", [((1,), -1), ((0,), 1)]),
    (1, "-x - 1", [((1,), -1), ((0,), -1)]),
    (1, "x^3 - 2*x^2 + x - 10", [((3,), 1), ((2,), -2), ((1,), 1), ((0,), -10)]),
    (2, "3*x^2 - y + 5", [((2, 0), 3), ((0, 1), -1), ((0, 0), 5)]),
    (2, "x*y", [((1, 1), 1)]),
    (2, "-x*y + 1", [((1, 1), -1), ((0, 0), 1)]),
    (2, "7*x^2*y^3 - x*y^99 + y", [((2, 3), 7), ((1, 99), -1), ((0, 1), 1)]),
    (3, "x*z - y*z + 2*z^2", [((1, 0, 1), 1), ((0, 1, 1), -1), ((0, 0, 2), 2)]),
    (3, "z", [((0, 0, 1), 1)]),
    (4, "x*y^2*z^3*w^4", [((1, 2, 3, 4), 1)]),
    (4, "x + y + z + w + 1", [((1, 0, 0, 0), 1), ((0, 1, 0, 0), 1), ((0, 0, 1, 0), 1), ((0, 0, 0, 1), 1),
                              ((0, 0, 0, 0), 1)]),
    (4, "-3*y*w", [((0, 1, 0, 1), -3)]),
    (1, f"{FIFTY}*x - {FIFTY}", [((1,), FIFTY), ((0,), -FIFTY)]),
    (2, f"-{SIXTY}*x^2*y + {SIXTY}", [((2, 1), -SIXTY), ((0, 0), SIXTY)]),
)

# Texts that are of no sum over the whole numbers, in two unknowns.
NOT_WRITTEN = (
    "", " ", "  ", "+", "-", "*", "^", "+ +", "- -", "x y", "2 x", "2x", "x2", "xy", "x*", "*x", "x**y", "2*", "*2", "x^",
    "^2", "x^^2", "x^y", "x^-1", "x^+2", "x^ 2", "x ^2", "x^(2)", "(x)", "x^2.0", "1.0", "1,0", "1_0", "1e2", "0x1", "1/2",
    "x ", " x", " x ", "x  + 1", "x +  1", "x +1", "x+ 1", "x+1", "x-1", "x - -1", "x + -1", "x - +1", "+x", "+ x", "- x",
    "--x", "-+x", "x +", "x -", "x + ", "x - ", "+ 1", "x + 1 +", "x + 1 -", "x 1", "x + y 1", "x + + y", "x * y", "x* y",
    "x *y", "3 *x", "00", "01", "-0", "+0", "-00", "0*x", "0*x*y", "x + 0", "0 + x", "x - 0", "0 + 0", "x + 0*y", "05*x",
    "-05", "x^02", "x^002", "x^0", "x^1", "x^00", "x^01", "y^0", "x*y^1", "2*x^0", "1*x", "-1*x", "1*x*y", "x*1", "x*2",
    "2*3", "2*3*x", "2*x*3", "x*x", "x*x^2", "x^2*x", "y*x", "y*2", "y^2*x", "x*y*x", "x^100", "x^101", "x^999",
    "y^100", "x*y^100", "x^1000000", "x^99*x^99", "1 + x", "y + x", "x + x^2", "x*y + x^2", "x + x", "x - x", "x + y + x",
    "1 + 1", "x + 1 + 1", "y^2 + x", "x*y^2 + x*y^3", "y + x*y", "z", "w", "x*z", "x + z", "w^2", "a", "X", "Y", "X^2",
    "t", "x + a", "3*", "x + 3*", "x\t+ 1", "x +\t1", "\tx", "x\t", "x\n", "\nx", "x\n+ 1", "x + 1\n", "0\n", "0 ", " 0",
    "\t", "\n", "\r", "0\r", "x\r", "x + y\r\n", "1 0", "- 1", "-1 ", "x + 1 ", "x  ", "~", "x~", "x=0", "x!", "x;", "x,y",
    "x + 1 + y", "-x + -1", "none", "ok", "NaN", "x^-0", "x^+0", "$", "x'", "\"x\"", "x + \"1\"", "x+", "5x^2", "x^2^2",
)


class Shown(unittest.TestCase):
    def test_16_told_texts(self):
        for many, text, row in WRITTEN:
            answer = shown(row)
            self.assertIsInstance(answer, str)
            self.assertEqual(answer, text)

    def test_16_exponents_beyond_99_are_shown(self):
        self.assertEqual(shown([((100,), 1)]), "x^100")
        self.assertEqual(shown([((198, 0, 1000), -2), ((0, 101, 0), 1)]), "-2*x^198*z^1000 + y^101")

    def test_16_each_sign_of_each_term(self):
        for first in (-2, -1, 1, 2):
            for second in (-2, -1, 1, 2):
                for third in (-2, -1, 1, 2):
                    row = [((2, 0), first), ((0, 1), second), ((0, 0), third)]
                    names = {-2: "2*", -1: "", 1: "", 2: "2*"}
                    wanted = ("-" if first < 0 else "") + names[first] + "x^2"
                    wanted += (" - " if second < 0 else " + ") + names[second] + "y"
                    wanted += (" - " if third < 0 else " + ") + str(abs(third))
                    self.assertEqual(shown(row), wanted)

    def test_16_each_letter_has_its_place(self):
        letters = "xyzw"
        for many in (1, 2, 3, 4):
            for place in range(many):
                for exponent in (1, 2, 3, 10, 99):
                    exponents = tuple(exponent if k == place else 0 for k in range(many))
                    wanted = letters[place] + (f"^{exponent}" if exponent > 1 else "")
                    self.assertEqual(shown([(exponents, 1)]), wanted)
                    self.assertEqual(shown([(exponents, -1)]), "-" + wanted)
                    self.assertEqual(shown([(exponents, 12)]), "12*" + wanted)

    def test_4_the_sum_stays_as_it_was(self):
        row = [((2, 0), 3), ((0, 1), -1), ((0, 0), 5)]
        shown(row)
        self.assertEqual(row, [((2, 0), 3), ((0, 1), -1), ((0, 0), 5)])


class Read(unittest.TestCase):
    def same_sum(self, ring, many, text, wanted):
        row = read(ring, many, text)
        self.assertIsNone(fault_of_sum(ring, many, row), text)
        self.assertTrue(all(is_plain_number(number) for exponents, number in row), text)
        self.assertEqual(row, wanted, text)

    def test_16_told_texts(self):
        for many, text, row in WRITTEN:
            self.same_sum(0, many, text, row)

    def test_16_what_is_shown_is_read(self):
        for ring in SAMPLE_RINGS:
            for many in (1, 2, 3, 4):
                for row in sample_sums(ring, many):
                    self.same_sum(ring, many, shown(row), row)

    def test_16_every_exponent_to_99(self):
        for many in (1, 2, 3, 4):
            for exponent in range(100):
                row = from_dict(0, {(exponent,) + (0,) * (many - 1): 3, (0,) * (many - 1) + (exponent,): -4})
                self.same_sum(0, many, shown(row), row)

    def test_16_over_a_prime_numbers_are_from_1_to_one_below_it(self):
        for prime in (2, 3, 5, 31, 97, 997):
            for number in range(1, min(prime, 40)):
                text = "x + " + str(number)
                self.same_sum(prime, 1, text, [((1,), 1), ((0,), number)])
            self.same_sum(prime, 1, str(prime - 1), [((0,), prime - 1)])
            for number in (prime, prime + 1, 2 * prime, 2 * prime + 1, 1000, FIFTY):
                self.assertEqual(refusal_of(read, prime, 1, str(number)), "NotWritten", (prime, number))
                self.assertEqual(refusal_of(read, prime, 1, f"{number}*x"), "NotWritten", (prime, number))
                self.assertEqual(refusal_of(read, prime, 1, f"x + {number}"), "NotWritten", (prime, number))

    def test_16_over_a_prime_nothing_is_below_nought(self):
        for prime in (2, 3, 5, 31, 97, 997):
            for text in ("-1", "-x", "x - 1", "-x + 1", "x^2 - x + 1", "-0", "x - 0"):
                self.assertEqual(refusal_of(read, prime, 1, text), "NotWritten", (prime, text))

    def test_16_a_number_that_is_none_over_one_prime_is_one_over_another(self):
        self.assertEqual(refusal_of(read, 3, 2, "3*x*y"), "NotWritten")
        self.same_sum(5, 2, "3*x*y", [((1, 1), 3)])
        self.assertEqual(refusal_of(read, 2, 2, "2"), "NotWritten")
        self.same_sum(0, 2, "2", [((0, 0), 2)])

    def test_16_texts_that_are_of_no_sum(self):
        for ring in (0, 5, 997):
            for text in NOT_WRITTEN:
                with self.subTest(ring=ring, text=text):
                    self.assertEqual(refusal_of(read, ring, 2, text), "NotWritten")

    def test_16_letters_of_unknowns_that_there_are_not(self):
        letters = "xyzw"
        for many in (1, 2, 3, 4):
            for place, letter in enumerate(letters):
                for text in (letter, letter + "^2", "2*" + letter, letter + " + 1"):
                    wanted = None if place < many else "NotWritten"
                    for ring in (0, 7):
                        self.assertEqual(refusal_of(read, ring, many, text), wanted, (many, text))
            for letter in "abcdefghijklmnopqrstuvXYZW_":
                self.assertEqual(refusal_of(read, 0, many, letter), "NotWritten")
                self.assertEqual(refusal_of(read, 0, many, "x*" + letter), "NotWritten")

    def test_16_each_text_with_one_sign_more_less_or_changed(self):
        signs = " +-*^0123456789xyzwa\t\n~"
        tried = 0
        for many, text, row in WRITTEN:
            if len(text) < 30:
                changed = [text[:k] + text[k + 1:] for k in range(len(text))]
                for sign in signs:
                    changed += [text[:k] + sign + text[k:] for k in range(len(text) + 1)]
                    changed += [text[:k] + sign + text[k + 1:] for k in range(len(text))]
                for other in changed:
                    tried += self.look_at_text(many, other)
        self.assertGreater(tried, 1000)

    def look_at_text(self, many, text):
        """A text is read just if the sum that is read is written so; returns whether it was refused."""
        try:
            row = read(0, many, text)
        except ValueError:
            self.assertEqual(refusal_of(read, 0, many, text), "NotWritten", text)
            self.assertFalse(is_told_text(many, text), text)
            return True
        self.assertIsNone(fault_of_sum(0, many, row), text)
        self.assertEqual(shown(row), text)
        return False

    def test_16_drawn_sums_of_each_count(self):
        drawn = drawn_numbers(16)
        for ring in SAMPLE_RINGS:
            for many in (1, 2, 3, 4):
                for round_ in range(20):
                    numbers = {}
                    for term in range(next(drawn) % 7):
                        exponents = tuple(next(drawn) % (100 if next(drawn) % 3 == 0 else 3) for k in range(many))
                        numbers[exponents] = (next(drawn) % 2001 - 1000) * (FIFTY if next(drawn) % 5 == 0 else 1)
                    row = from_dict(ring, numbers)
                    self.same_sum(ring, many, shown(row), row)

    def test_16_no_unknowns_ahead_of_not_written(self):
        for place, many in enumerate(no_unknowns()):
            with self.subTest(place=place):
                for text in ("x", "0", "", "x + x", "q"):
                    self.assertEqual(refusal_of(read, 0, many, text), "NoUnknowns")
                    self.assertEqual(refusal_of(read, 7, many, text), "NoUnknowns")

    def test_4_16_no_ring_ahead_of_both(self):
        for place, ring in enumerate(no_rings()):
            with self.subTest(place=place):
                self.assertEqual(refusal_of(read, ring, 2, "x"), "NoRing")
                self.assertEqual(refusal_of(read, ring, 2, ""), "NoRing")
                self.assertEqual(refusal_of(read, ring, 0, "x"), "NoRing")
                self.assertEqual(refusal_of(read, ring, None, None), "NoRing")

    def test_4_the_answer_is_the_asker_s_own(self):
        for text in ("0", "5", "x^2 + y"):
            first = read(0, 2, text)
            wanted = list(first)
            second = read(0, 2, text)
            self.assertIsNot(first, second)
            second.append("more")
            self.assertEqual(first, wanted)
            self.assertEqual(read(0, 2, text), wanted)


def is_told_text(many, text):
    """Whether [16] writes a sum over the whole numbers so, looked at term by term."""
    if text == "0":
        return True
    below = text[:1] == "-"
    pieces = text[1:].split(" ") if below else text.split(" ")
    if len(pieces) % 2 == 0 or any(piece not in ("+", "-") for piece in pieces[1::2]):
        return False
    places = [told_exponents(many, piece) for piece in pieces[::2]]
    return None not in places and all(one > other for one, other in zip(places, places[1:]))


def told_exponents(many, piece):
    """The exponents of a term that is written right, or None."""
    factors = piece.split("*")
    exponents = [0] * many
    last = -1
    for count, factor in enumerate(factors):
        if count == 0 and factor[:1] in tuple("123456789") and set(factor) <= set("0123456789"):
            if factor == "1" and len(factors) > 1:
                return None
            continue
        place = "xyzw".find(factor[:1]) if factor else -1
        power = factor[1:]
        right = power == "" or (power[0] == "^" and power[1:] in [str(k) for k in range(2, 100)])
        if not last < place < many or not right:
            return None
        exponents[place] = int(power[1:] or 1)
        last = place
    return tuple(exponents)


if __name__ == "__main__":
    unittest.main()
