"""Promises [22] and [23], and of [4] that a prime is looked at first."""

import unittest

from polyring.factors import factors, unsplit
from things import (drawn_numbers, drawn_row, every_row, fault_of_row, is_plain_number, no_primes, refusal_of,
                    slow_row_plus, slow_row_slope, slow_row_times)

PRIMES = (2, 3, 5, 7, 11, 13, 17, 19, 23, 29, 31)


def whole_rows(prime, most):
    """All whole plain rows of fewer than so many numbers: what is left when all products are struck out."""
    plain = [tuple(row) for row in every_row(prime, most) if len(row) > 1 and row[-1] == 1]
    products = set()
    for one in plain:
        for other in plain:
            if len(one) + len(other) - 1 < most:
                products.add(tuple(slow_row_times(prime, one, other)))
    return [list(row) for row in plain if row not in products]


class PrimeFirst(unittest.TestCase):
    def test_4_what_is_no_prime_is_refused_ahead_of_all_else(self):
        for place, prime in enumerate(no_primes()):
            with self.subTest(place=place):
                for action in (factors, unsplit):
                    for row in ([1, 1], [1], [], [1, 2], [1, 0, 1], None):
                        self.assertEqual(refusal_of(action, prime, row), "NoPrime")


class FactorCase(unittest.TestCase):
    def look_at(self, prime, row):
        """Everything that [22] tells but that the factors are whole; their papers are looked at for that."""
        answer = factors(prime, row)
        told = (prime, row, answer)
        self.assertIsInstance(answer, tuple)
        self.assertEqual(len(answer), 2)
        number, rows = answer
        self.assertTrue(is_plain_number(number), told)
        self.assertEqual(number, row[-1], told)
        self.assertIsInstance(rows, list)
        product = [number]
        for entry in rows:
            self.assertIsInstance(entry, tuple)
            factor, many = entry
            self.assertIsNone(fault_of_row(prime, factor), told)
            self.assertTrue(is_plain_number(many) and many >= 1, told)
            self.assertGreater(len(factor), 1, told)
            self.assertEqual(factor[-1], 1, told)
            product = slow_row_times(prime, product, *[factor] * many)
        self.assertEqual(product, row, told)
        places = [(len(factor), factor) for factor, many in rows]
        self.assertTrue(all(one < other for one, other in zip(places, places[1:])), told)
        return answer

    def look_at_paper(self, prime, row):
        """Reckons the paper again as [23] tells it."""
        paper = unsplit(prime, row)
        told = (prime, row, paper)
        self.assertIsInstance(paper, tuple, told)
        self.assertEqual(len(paper), 5, told)
        u, v, quotients, rests, table = paper
        power = len(row) - 1
        for part in [u, v] + quotients + rests:
            self.assertIsNone(fault_of_row(prime, part), told)
        one = slow_row_times(prime, u, row)
        other = slow_row_times(prime, v, slow_row_slope(prime, row))
        self.assertEqual(slow_row_plus(prime, one, other), [1], told)
        self.assertEqual((len(quotients), len(rests)), (power, power), told)
        self.assertEqual((quotients[0], rests[0]), ([], [1]), told)
        for k in range(1, power):
            self.assertLess(len(rests[k]), len(row), told)
            upper = [0] * prime + [1] if k == 1 else slow_row_times(prime, rests[k - 1], rests[1])
            made = slow_row_plus(prime, slow_row_times(prime, quotients[k], row), rests[k])
            self.assertEqual(made, upper, told)
        self.look_at_table(prime, power, rests, table, told)

    def look_at_table(self, prime, power, rests, table, told):
        self.assertIsInstance(table, list, told)
        self.assertEqual([len(part) for part in table], [power - 1] * power, told)
        for part in table:
            self.assertIsInstance(part, list, told)
            self.assertTrue(all(is_plain_number(number) and 0 <= number < prime for number in part), told)
        for j in range(1, power):
            numbers = rests[j] + [0] * (power - len(rests[j]))
            numbers[j] -= 1
            for k in range(1, power):
                total = sum(number * table[place][k - 1] for place, number in enumerate(numbers))
                self.assertEqual(total % prime, 1 if j == k else 0, told)


class Factors(FactorCase):
    def test_22_every_small_row(self):
        for prime, most in ((2, 8), (3, 6), (5, 4)):
            whole = whole_rows(prime, most)
            for row in every_row(prime, most):
                if row:
                    for factor, many in self.look_at(prime, row)[1]:
                        self.assertIn(factor, whole, (prime, row))

    def test_22_numbers_alone(self):
        for prime in PRIMES:
            for number in range(1, prime):
                self.assertEqual(self.look_at(prime, [number]), (number, []))

    def test_22_nought(self):
        for prime in PRIMES:
            self.assertEqual(refusal_of(factors, prime, []), "NoParts")

    def test_22_told_examples(self):
        self.assertEqual(self.look_at(2, [1, 0, 0, 0, 1]), (1, [([1, 1], 4)]))
        self.assertEqual(self.look_at(5, [1, 0, 1]), (1, [([2, 1], 1), ([3, 1], 1)]))
        self.assertEqual(self.look_at(7, [3, 0, 3]), (3, [([1, 0, 1], 1)]))
        self.assertEqual(self.look_at(3, [0, 0, 2]), (2, [([0, 1], 2)]))
        self.assertEqual(self.look_at(3, [0, 1, 0, 2, 0, 1]),
                         (1, [([0, 1], 1), ([1, 0, 1], 2)]))

    def test_22_the_order_is_by_length_then_as_lists_do(self):
        self.assertEqual(self.look_at(5, slow_row_times(5, [2, 0, 1], [4, 1], [3, 0, 1], [1, 1])),
                         (1, [([1, 1], 1), ([4, 1], 1), ([2, 0, 1], 1), ([3, 0, 1], 1)]))
        self.assertEqual(self.look_at(5, slow_row_times(5, [2, 0, 1], [4, 1], [4, 1], [4, 1], [2, 1, 1], [3])),
                         (3, [([4, 1], 3), ([2, 0, 1], 1), ([2, 1, 1], 1)]))

    def test_22_all_roots_of_a_prime(self):
        for prime in PRIMES:
            row = [0, prime - 1] + [0] * (prime - 2) + [1]
            answer = self.look_at(prime, row)
            self.assertEqual(answer, (1, [([root, 1], 1) for root in range(prime)]))

    def test_22_products_of_drawn_rows(self):
        for prime in PRIMES:
            drawn = drawn_numbers(prime + 22)
            for round_ in range(15):
                row = [1 + next(drawn) % (prime - 1)]
                while len(row) <= 12:
                    many = 1 + next(drawn) % 3
                    longer = slow_row_times(prime, row, *[drawn_row(drawn, prime, 1 + next(drawn) % 5)] * many)
                    if len(longer) > 13:
                        break
                    row = longer
                for factor, many in self.look_at(prime, row)[1]:
                    self.look_at_paper(prime, factor)

    def test_22_drawn_rows_of_the_power_12(self):
        for prime in PRIMES:
            drawn = drawn_numbers(prime + 12)
            for round_ in range(4):
                for factor, many in self.look_at(prime, drawn_row(drawn, prime, 12))[1]:
                    self.look_at_paper(prime, factor)

    def test_22_a_product_has_the_factors_of_both(self):
        for prime in (2, 3, 7, 31):
            drawn = drawn_numbers(prime + 222)
            for round_ in range(8):
                one, other = drawn_row(drawn, prime, 4), drawn_row(drawn, prime, 5)
                counts = {}
                for row in (one, other):
                    for factor, many in factors(prime, row)[1]:
                        counts[tuple(factor)] = counts.get(tuple(factor), 0) + many
                answer = self.look_at(prime, slow_row_times(prime, one, other))
                self.assertEqual({tuple(factor): many for factor, many in answer[1]}, counts)


class Unsplit(FactorCase):
    def test_23_every_small_plain_row(self):
        for prime, most in ((2, 8), (3, 6), (5, 4)):
            whole = whole_rows(prime, most)
            for row in every_row(prime, most):
                if len(row) > 1 and row[-1] == 1:
                    if row in whole:
                        self.look_at_paper(prime, row)
                    else:
                        self.assertIsNone(unsplit(prime, row), (prime, row))

    def test_23_the_power_1(self):
        for prime in PRIMES:
            for number in range(prime):
                self.look_at_paper(prime, [number, 1])
                self.assertEqual(unsplit(prime, [number, 1])[2:], ([[]], [[1]], [[]]))

    def test_23_none_just_where_the_row_is_a_product(self):
        for prime in PRIMES:
            drawn = drawn_numbers(prime + 23)
            for power in range(2, 13):
                row = drawn_row(drawn, prime, power)[:-1] + [1]
                rows = factors(prime, row)[1]
                if rows == [(row, 1)]:
                    self.look_at_paper(prime, row)
                else:
                    self.assertIsNone(unsplit(prime, row))
                for other in ([1, 1], [0, 1], row):
                    if len(row) + len(other) < 15:
                        self.assertIsNone(unsplit(prime, slow_row_times(prime, row, other)))

    def test_23_whole_rows_of_each_power(self):
        for prime in (2, 3, 5, 31):
            drawn = drawn_numbers(prime + 230)
            for power in range(2, 13):
                row = drawn_row(drawn, prime, power)[:-1] + [1]
                while factors(prime, row)[1] != [(row, 1)]:
                    row = drawn_row(drawn, prime, power)[:-1] + [1]
                self.look_at_paper(prime, row)

    def test_23_what_is_not_plain_or_of_no_power(self):
        for prime in PRIMES:
            self.assertEqual(refusal_of(unsplit, prime, []), "NotPlain")
            for number in range(1, prime):
                self.assertEqual(refusal_of(unsplit, prime, [number]), "NotPlain")
            for number in range(2, prime):
                self.assertEqual(refusal_of(unsplit, prime, [1, number]), "NotPlain")
                self.assertEqual(refusal_of(unsplit, prime, [1, 0, 1, number]), "NotPlain")


if __name__ == "__main__":
    unittest.main()
