"""Promises [20] and [21], and of [4] that a prime is looked at first."""

import unittest
from itertools import combinations

from polyring.squares import no_square, parts
from things import (drawn_numbers, drawn_row, every_row, fault_of_row, is_plain_number, no_primes, refusal_of, row_from,
                    slow_row_plus, slow_row_slope, slow_row_times)

PRIMES = (2, 3, 5, 7, 13, 997)


def slow_divided(prime, row, by):
    """The rest of a row by another one, plain or not."""
    rest = list(row)
    back = pow(by[-1], -1, prime)
    while len(rest) >= len(by):
        factor = rest[-1] * back
        shift = len(rest) - len(by)
        rest = row_from(prime, [number - factor * (by[k - shift] if k >= shift else 0) for k, number in enumerate(rest)])
    return rest


def slow_common(prime, ones, others):
    while others:
        ones, others = others, slow_divided(prime, ones, others)
    return ones


def power_row(prime, row, many):
    return slow_row_times(prime, *[row] * many)


class PrimeFirst(unittest.TestCase):
    def test_4_what_is_no_prime_is_refused_ahead_of_all_else(self):
        for place, prime in enumerate(no_primes()):
            with self.subTest(place=place):
                for action in (no_square, parts):
                    for row in ([1, 1], [1], [], [1, 0, 1], None):
                        self.assertEqual(refusal_of(action, prime, row), "NoPrime")


class NoSquare(unittest.TestCase):
    def look_at(self, prime, row):
        """True where a paper is told, which is looked at."""
        answer = no_square(prime, row)
        if answer is None:
            return False
        told = (prime, row, answer)
        self.assertIsInstance(answer, tuple)
        self.assertEqual(len(answer), 2)
        for part in answer:
            self.assertIsNone(fault_of_row(prime, part), told)
        one = slow_row_times(prime, answer[0], row)
        other = slow_row_times(prime, answer[1], slow_row_slope(prime, row))
        self.assertEqual(slow_row_plus(prime, one, other), [1], told)
        return True

    def test_20_every_small_row(self):
        for prime, most in ((2, 8), (3, 6), (5, 4)):
            squares = [slow_row_times(prime, row, row) for row in every_row(prime, most // 2 + 1)
                       if len(row) > 1 and row[-1] == 1]
            for row in every_row(prime, most):
                twice = not row or any(not slow_divided(prime, row, by) for by in squares if len(by) <= len(row))
                self.assertIs(self.look_at(prime, row), not twice, (prime, row))

    def test_20_nought_and_numbers_alone(self):
        for prime in PRIMES:
            self.assertIsNone(no_square(prime, []))
            for number in (1, 2, prime - 1):
                if number % prime:
                    self.assertTrue(self.look_at(prime, [number]))

    def test_20_rows_with_the_slope_nought(self):
        for prime in PRIMES:
            for number in (0, 1, prime - 1):
                self.assertIsNone(no_square(prime, [number] + [0] * (prime - 1) + [1]), prime)

    def test_20_drawn_rows_and_their_squares(self):
        for prime in PRIMES:
            drawn = drawn_numbers(prime + 20)
            for power in (1, 2, 3, 4, 6):
                row = drawn_row(drawn, prime, power)
                other = drawn_row(drawn, prime, 3)
                self.look_at(prime, row)
                self.assertFalse(self.look_at(prime, slow_row_times(prime, row, row)))
                self.assertFalse(self.look_at(prime, slow_row_times(prime, row, row, other)))

    def test_20_different_roots(self):
        for prime in (5, 7, 13, 997):
            roots = [[-k % prime, 1] for k in range(5)]
            self.assertTrue(self.look_at(prime, slow_row_times(prime, [prime - 2], *roots)))
            self.assertFalse(self.look_at(prime, slow_row_times(prime, roots[3], *roots)))


class Parts(unittest.TestCase):
    def look_at(self, prime, row):
        answer = parts(prime, row)
        told = (prime, row, answer)
        self.assertIsInstance(answer, tuple)
        self.assertEqual(len(answer), 2)
        number, rows = answer
        self.assertTrue(is_plain_number(number), told)
        self.assertEqual(number, row[-1], told)
        self.assertIsInstance(rows, list)
        product = [number]
        for entry in rows:
            self.assertIsInstance(entry, tuple)
            part, many = entry
            self.assertIsNone(fault_of_row(prime, part), told)
            self.assertTrue(is_plain_number(many) and many >= 1, told)
            self.assertGreater(len(part), 1, told)
            self.assertEqual(part[-1], 1, told)
            self.assertEqual(len(slow_common(prime, part, slow_row_slope(prime, part))), 1, told)
            product = slow_row_times(prime, product, *[part] * many)
        self.assertEqual(product, row, told)
        self.assertTrue(all(one[1] < other[1] for one, other in zip(rows, rows[1:])), told)
        for one, other in combinations(rows, 2):
            self.assertEqual(len(slow_common(prime, one[0], other[0])), 1, told)
        return answer

    def test_21_every_small_row(self):
        for prime, most in ((2, 9), (3, 6), (5, 4)):
            for row in every_row(prime, most):
                if row:
                    self.look_at(prime, row)

    def test_21_numbers_alone(self):
        for prime in PRIMES:
            for number in (1, prime - 1):
                self.assertEqual(self.look_at(prime, [number]), (number, []))

    def test_21_each_root_so_often(self):
        for prime in PRIMES:
            for often in ((1,), (2,), (3, 1), (1, 1), (2, 2), (1, 2), (prime,), (prime + 1,), (prime, 1), (1, prime),
                          (2 * prime, 3), (prime, prime), (prime, prime + 1)):
                if sum(often) < 40:
                    row = [prime - 1]
                    wanted = {}
                    for root, many in enumerate(often):
                        factor = [-root % prime, 1]
                        row = slow_row_times(prime, row, *[factor] * many)
                        wanted[many] = slow_row_times(prime, wanted.get(many, [1]), factor)
                    told = (prime - 1, [(wanted[many], many) for many in sorted(wanted)])
                    self.assertEqual(self.look_at(prime, row), told, (prime, often))

    def test_21_powers_of_powers_of_the_prime(self):
        for prime, many in ((2, 2), (2, 4), (2, 8), (2, 16), (2, 6), (2, 12), (3, 3), (3, 9), (3, 6), (3, 18), (5, 5),
                            (5, 25), (5, 10), (7, 7), (7, 14), (13, 13)):
            for factor in ([1, 1], [0, 1], [1, 1, 1] if prime == 2 else [prime - 1, 1]):
                row = power_row(prime, factor, many)
                self.assertEqual(self.look_at(prime, row), (1, [(factor, many)]))

    def test_21_the_prime_itself_and_a_number(self):
        for prime in PRIMES:
            for number in (0, 1, prime - 1):
                row = [number] + [0] * (prime - 1) + [1]
                self.assertEqual(self.look_at(prime, row), (1, [([number, 1], prime)]))

    def test_21_drawn_products(self):
        for prime in PRIMES:
            drawn = drawn_numbers(prime + 21)
            for round_ in range(12):
                row = [1 + next(drawn) % (prime - 1)]
                for factor in range(3):
                    many = 1 + next(drawn) % (4 if prime > 3 else prime + 2)
                    row = slow_row_times(prime, row, *[drawn_row(drawn, prime, 1 + next(drawn) % 2)] * many)
                self.look_at(prime, row)

    def test_21_nought(self):
        for prime in PRIMES:
            self.assertEqual(refusal_of(parts, prime, []), "NoParts")


if __name__ == "__main__":
    unittest.main()
