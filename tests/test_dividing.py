"""Promises [18] and [19], and of [4] that a prime is looked at first."""

import unittest

from polyring.dividing import divided, meet
from things import (drawn_numbers, drawn_row, every_row, fault_of_row, no_primes, refusal_of, slow_row_plus,
                    slow_row_times)

PRIMES = (2, 3, 5, 7, 13, 31, 997)


def sample_rows(prime):
    drawn = drawn_numbers(prime + 1)
    rows = [[], [1], [prime - 1], [0, 1], [1, 1], [0, 0, 0, prime - 1], [1, 0, 0, 0, 0, 1]]
    return rows + [drawn_row(drawn, prime, power) for power in (1, 2, 3, 5, 8, 13)]


class PrimeFirst(unittest.TestCase):
    def test_4_what_is_no_prime_is_refused_ahead_of_all_else(self):
        for place, prime in enumerate(no_primes()):
            with self.subTest(place=place):
                for action in (divided, meet):
                    self.assertEqual(refusal_of(action, prime, [1, 1], [0, 1]), "NoPrime")
                    self.assertEqual(refusal_of(action, prime, [1, 1], []), "NoPrime")
                    self.assertEqual(refusal_of(action, prime, [], []), "NoPrime")
                    self.assertEqual(refusal_of(action, prime, None, None), "NoPrime")


class Divided(unittest.TestCase):
    def look_at(self, prime, row, by):
        answer = divided(prime, row, by)
        told = (prime, row, by, answer)
        self.assertIsInstance(answer, tuple)
        self.assertEqual(len(answer), 2)
        quotient, rest = answer
        self.assertIsNone(fault_of_row(prime, quotient), told)
        self.assertIsNone(fault_of_row(prime, rest), told)
        self.assertLess(len(rest), len(by), told)
        self.assertEqual(slow_row_plus(prime, slow_row_times(prime, quotient, by), rest), row, told)
        return answer

    def test_18_every_pair_of_small_rows(self):
        for prime, most in ((2, 6), (3, 4), (5, 3)):
            for row in every_row(prime, most):
                for by in every_row(prime, most):
                    if by:
                        self.look_at(prime, row, by)

    def test_18_sample_rows(self):
        for prime in PRIMES:
            for row in sample_rows(prime):
                for by in sample_rows(prime):
                    if by:
                        self.look_at(prime, row, by)

    def test_18_without_a_rest(self):
        for prime in PRIMES:
            for quotient in sample_rows(prime):
                for by in sample_rows(prime):
                    if by:
                        row = slow_row_times(prime, quotient, by)
                        self.assertEqual(self.look_at(prime, row, by), (quotient, []))

    def test_18_by_a_number_alone_and_by_a_longer_row(self):
        self.assertEqual(divided(5, [1, 2, 3], [2]), ([3, 1, 4], []))
        self.assertEqual(divided(5, [1, 2, 3], [1, 2, 3, 4]), ([], [1, 2, 3]))
        self.assertEqual(divided(5, [], [1, 1]), ([], []))
        self.assertEqual(divided(5, [3], [2]), ([4], []))
        self.assertEqual(divided(5, [3], [2, 1]), ([], [3]))
        self.assertEqual(divided(5, [1, 0, 1], [3, 1]), ([2, 1], []))
        self.assertEqual(divided(5, [2, 0, 1], [3, 1]), ([2, 1], [1]))

    def test_18_by_nought(self):
        for prime in PRIMES:
            for row in sample_rows(prime):
                self.assertEqual(refusal_of(divided, prime, row, []), "ByNought", (prime, row))


class Meet(unittest.TestCase):
    def look_at(self, prime, ones, others):
        answer = meet(prime, ones, others)
        told = (prime, ones, others, answer)
        self.assertIsInstance(answer, tuple)
        self.assertEqual(len(answer), 5)
        for row in answer:
            self.assertIsNone(fault_of_row(prime, row), told)
        g, s, t, u, v = answer
        self.assertEqual(g[-1], 1, told)
        self.assertEqual(slow_row_times(prime, g, s), ones, told)
        self.assertEqual(slow_row_times(prime, g, t), others, told)
        made = slow_row_plus(prime, slow_row_times(prime, u, ones), slow_row_times(prime, v, others))
        self.assertEqual(made, g, told)
        return g

    def test_19_every_pair_of_small_rows(self):
        for prime, most in ((2, 6), (3, 4), (5, 3)):
            for ones in every_row(prime, most):
                for others in every_row(prime, most):
                    if ones or others:
                        self.assertEqual(self.look_at(prime, ones, others), self.look_at(prime, others, ones))

    def test_19_with_and_without_a_common_part(self):
        for prime in PRIMES:
            rows = [row for row in sample_rows(prime) if row]
            for common in rows:
                for ones in rows[:9]:
                    for others in rows[4:]:
                        both = [slow_row_times(prime, common, row) for row in (ones, others)]
                        self.assertGreaterEqual(len(self.look_at(prime, *both)), len(common))

    def test_19_one_so_many_times_the_other(self):
        for prime in PRIMES:
            for row in sample_rows(prime):
                for factor in (1, 2, prime - 1):
                    multiple = slow_row_times(prime, row, [factor % prime]) if factor % prime else []
                    if row and multiple:
                        self.assertEqual(len(self.look_at(prime, row, multiple)), len(row))

    def test_19_one_nought(self):
        for prime in PRIMES:
            for row in sample_rows(prime):
                if row:
                    for pair in ((row, []), ([], row)):
                        self.assertEqual(len(self.look_at(prime, *pair)), len(row))

    def test_19_told_examples(self):
        self.assertEqual(self.look_at(5, [4, 0, 1], [1, 2, 1]), [1, 1])
        self.assertEqual(self.look_at(5, [2], [1, 2, 1]), [1])
        self.assertEqual(self.look_at(2, [1, 0, 1], [1, 1, 1]), [1])
        self.assertEqual(self.look_at(7, [], [3, 0, 2]), [5, 0, 1])

    def test_19_two_noughts(self):
        for prime in PRIMES:
            self.assertEqual(refusal_of(meet, prime, [], []), "NoMeet")


if __name__ == "__main__":
    unittest.main()
