"""Promises [3] and [17], and of [4] that a prime is looked at first."""

import unittest

from polyring.rows import (row_made, row_minus, row_of, row_plus, row_scaled, row_slope, row_times, row_value, sum_of)
from things import (drawn_numbers, drawn_row, every_row, fault_of_row, fault_of_sum, is_plain_number, no_primes,
                    refusal_of, row_from, slow_row_plus, slow_row_slope, slow_row_times)

GREAT = 1234567890123456789012345678901234567890123
PRIMES = (2, 3, 5, 7, 11, 13, 997)


def sample_rows(prime):
    """Nought, numbers alone, short and long rows, with noughts within them."""
    drawn = drawn_numbers(prime)
    rows = [[], [1], [prime - 1], [0, 1], [1, prime - 1], [0] * 12 + [1], [1] * 9, [0] * prime + [1]]
    rows += [drawn_row(drawn, prime, power) for power in (1, 2, 3, 4, 7, 12, 20)]
    return rows


class RowCase(unittest.TestCase):
    def same_row(self, prime, row, wanted, told=None):
        self.assertIsNone(fault_of_row(prime, row), told)
        self.assertEqual(row, wanted, told)

    def each_pair(self):
        for prime in PRIMES:
            for one in sample_rows(prime):
                for other in sample_rows(prime):
                    yield prime, one, other


class PrimeFirst(unittest.TestCase):
    def test_4_17_what_is_no_prime(self):
        for place, prime in enumerate(no_primes()):
            with self.subTest(place=place):
                self.assertEqual(refusal_of(row_made, prime, [1, 2]), "NoPrime")
                self.assertEqual(refusal_of(row_made, prime, []), "NoPrime")
                for action in (row_plus, row_minus, row_times):
                    self.assertEqual(refusal_of(action, prime, [1, 1], [0, 1]), "NoPrime")
                    self.assertEqual(refusal_of(action, prime, [], []), "NoPrime")
                for rest in ([1, 1], []):
                    self.assertEqual(refusal_of(row_scaled, prime, rest, 3), "NoPrime")
                    self.assertEqual(refusal_of(row_scaled, prime, rest, 0), "NoPrime")
                    self.assertEqual(refusal_of(row_value, prime, rest, 1), "NoPrime")
                    self.assertEqual(refusal_of(row_slope, prime, rest), "NoPrime")

    def test_4_17_ahead_of_whatever_else_is_wrong(self):
        for place, prime in enumerate(no_primes()):
            with self.subTest(place=place):
                for action in (row_made, row_slope):
                    self.assertEqual(refusal_of(action, prime, None), "NoPrime")
                for action in (row_plus, row_minus, row_times, row_scaled, row_value):
                    self.assertEqual(refusal_of(action, prime, None, None), "NoPrime")


class Made(RowCase):
    def test_17_the_rests_without_noughts_at_the_end(self):
        for prime in PRIMES:
            for numbers in ([], [0], [0, 0, 0], [prime], [-prime, prime * GREAT], [1], [-1], [0, 1], [0, 1, 0],
                            [1, 0, 0, prime], [GREAT], [-GREAT], [prime * GREAT, 5, -GREAT, 0, prime],
                            [0, 0, 1, 0, 0, 1, 0, 0], [k * k - 40 for k in range(60)]):
                self.same_row(prime, row_made(prime, numbers), row_from(prime, numbers), (prime, numbers))

    def test_17_told_examples(self):
        self.same_row(5, row_made(5, [7, -1, 10, 5]), [2, 4])
        self.same_row(2, row_made(2, [2, 4, 6]), [])
        self.same_row(997, row_made(997, [-1]), [996])
        self.same_row(7, row_made(7, [0, 0, 8]), [0, 0, 1])

    def test_3_17_a_row_is_its_own(self):
        for prime in PRIMES:
            for row in sample_rows(prime):
                self.same_row(prime, row_made(prime, row), row)


class Reckoning(RowCase):
    def test_17_sum_and_difference(self):
        for prime, one, other in self.each_pair():
            self.same_row(prime, row_plus(prime, one, other), slow_row_plus(prime, one, other))
            self.same_row(prime, row_minus(prime, one, other), slow_row_plus(prime, one, other, -1))

    def test_17_product(self):
        for prime, one, other in self.each_pair():
            if len(one) + len(other) < 80:
                self.same_row(prime, row_times(prime, one, other), slow_row_times(prime, one, other))

    def test_17_every_small_row(self):
        for prime, most in ((2, 5), (3, 4), (5, 3)):
            for one in every_row(prime, most):
                for other in every_row(prime, most):
                    self.same_row(prime, row_plus(prime, one, other), slow_row_plus(prime, one, other))
                    self.same_row(prime, row_minus(prime, one, other), slow_row_plus(prime, one, other, -1))
                    self.same_row(prime, row_times(prime, one, other), slow_row_times(prime, one, other))

    def test_17_high_powers_that_fall_away(self):
        self.same_row(5, row_plus(5, [1, 2, 3], [1, 2, 2]), [2, 4])
        self.same_row(5, row_plus(5, [1, 0, 3], [4, 0, 2]), [])
        self.same_row(5, row_minus(5, [1, 2, 3], [0, 2, 3]), [1])
        self.same_row(5, row_minus(5, [1, 2], [0, 0, 1]), [1, 2, 4])
        self.same_row(2, row_plus(2, [1, 1, 1], [0, 1, 1]), [1])
        self.same_row(13, row_minus(13, [], [1]), [12])

    def test_17_told_products(self):
        self.same_row(2, row_times(2, [1, 1], [1, 1]), [1, 0, 1])
        self.same_row(5, row_times(5, [1, 1], [4, 1]), [4, 0, 1])
        self.same_row(7, row_times(7, [3], [5]), [1])
        self.same_row(7, row_times(7, [], [5, 1]), [])
        self.same_row(7, row_times(7, [5, 1], []), [])
        self.same_row(7, row_times(7, [5, 1], [1]), [5, 1])
        self.same_row(997, row_times(997, [996, 996], [996, 996]), [1, 2, 1])

    def test_17_so_many_times(self):
        for prime in PRIMES:
            for row in sample_rows(prime):
                for number in (0, 1, -1, 2, prime, -prime, prime + 1, GREAT, -GREAT, prime * GREAT):
                    wanted = row_from(prime, [own * number for own in row])
                    self.same_row(prime, row_scaled(prime, row, number), wanted, (prime, row, number))

    def test_17_value(self):
        for prime in PRIMES:
            for row in sample_rows(prime):
                for place in (0, 1, -1, 2, prime - 1, prime, prime + 1, 3 - prime, GREAT, -GREAT):
                    answer = row_value(prime, row, place)
                    self.assertTrue(is_plain_number(answer) and 0 <= answer < prime)
                    wanted = sum(number * pow(place, power, prime) for power, number in enumerate(row)) % prime
                    self.assertEqual(answer, wanted, (prime, row, place))

    def test_17_told_values(self):
        self.assertEqual(row_value(5, [1, 0, 1], 2), 0)
        self.assertEqual(row_value(5, [1, 2, 3], 0), 1)
        self.assertEqual(row_value(5, [], 3), 0)
        self.assertEqual(row_value(5, [4], 10 ** 40), 4)
        self.assertEqual(row_value(7, [1, 2, 3], -1), 2)

    def test_17_slope(self):
        for prime in PRIMES:
            for row in sample_rows(prime):
                self.same_row(prime, row_slope(prime, row), slow_row_slope(prime, row), (prime, row))

    def test_17_slopes_that_fall_away(self):
        self.same_row(5, row_slope(5, []), [])
        self.same_row(5, row_slope(5, [3]), [])
        self.same_row(5, row_slope(5, [3, 2]), [2])
        self.same_row(5, row_slope(5, [1, 0, 0, 0, 0, 1]), [])
        self.same_row(5, row_slope(5, [1, 1, 3, 0, 0, 2]), [1, 1])
        self.same_row(2, row_slope(2, [1, 1, 1, 1, 1]), [1, 0, 1])
        for prime in PRIMES:
            self.same_row(prime, row_slope(prime, [0] * prime + [1]), [])
            self.same_row(prime, row_slope(prime, [0] * (prime + 1) + [1]), [0] * prime + [1])

    def test_17_slope_of_a_product(self):
        for prime in PRIMES[:6]:
            rows = [row for row in sample_rows(prime) if len(row) < 15]
            for one, other in zip(rows, rows[1:]):
                wanted = row_plus(prime, row_times(prime, row_slope(prime, one), other),
                                  row_times(prime, one, row_slope(prime, other)))
                self.same_row(prime, row_slope(prime, row_times(prime, one, other)), wanted)


class SumsAndRows(RowCase):
    def test_17_rows_to_sums_and_back(self):
        for prime in PRIMES:
            for row in sample_rows(prime):
                told = sum_of(row)
                self.assertIsNone(fault_of_sum(prime, 1, told), row)
                wanted = [((power,), number) for power, number in enumerate(row) if number][::-1]
                self.assertEqual(told, wanted)
                self.same_row(prime, row_of(told), row)

    def test_17_told_examples(self):
        self.assertEqual(sum_of([]), [])
        self.assertEqual(row_of([]), [])
        self.assertEqual(sum_of([4]), [((0,), 4)])
        self.assertEqual(row_of([((0,), 4)]), [4])
        self.assertEqual(sum_of([1, 0, 3]), [((2,), 3), ((0,), 1)])
        self.assertEqual(row_of([((3,), 3), ((1,), 1)]), [0, 1, 0, 3])
        self.assertEqual(row_of([((99,), 1)]), [0] * 99 + [1])


if __name__ == "__main__":
    unittest.main()
