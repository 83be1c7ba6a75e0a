"""Promise [29], and what is refused first by [4] and [14]."""

import unittest

from polyring.bases import base
from polyring.reducing import reduced
from things import (all_divide, drawn_boxed, drawn_numbers, drawn_sum, fault_of_quotients, fault_of_sum, lead_of,
                    no_orders, no_primes, refusal_of, slow_combined, slow_plus)

ORDERS = ("lex", "deg")


class Refusals(unittest.TestCase):
    def test_29_what_is_no_prime_is_refused_first(self):
        for place, prime in enumerate(no_primes()):
            with self.subTest(place=place):
                for order in ("lex", "deg", "", None):
                    self.assertEqual(refusal_of(reduced, prime, order, [((1,), 1)], [[((1,), 1)]]), "NoPrime")
                    self.assertEqual(refusal_of(reduced, prime, order, [((1,), 1)], [[]]), "NoPrime")
                    self.assertEqual(refusal_of(reduced, prime, order, [], []), "NoPrime")
                    self.assertEqual(refusal_of(reduced, prime, order, None, None), "NoPrime")

    def test_29_then_what_is_no_order(self):
        for place, order in enumerate(no_orders()):
            with self.subTest(place=place):
                self.assertEqual(refusal_of(reduced, 7, order, [((1,), 1)], [[((1,), 1)]]), "NoOrder")
                self.assertEqual(refusal_of(reduced, 7, order, [((1,), 1)], [[]]), "NoOrder")
                self.assertEqual(refusal_of(reduced, 7, order, [], []), "NoOrder")
                self.assertEqual(refusal_of(reduced, 7, order, None, None), "NoOrder")

    def test_29_then_a_nought_among_those_it_is_reduced_by(self):
        row = [((1, 1), 1), ((0, 0), 2)]
        for order in ORDERS:
            for one in ([], row, [((0, 0), 1)]):
                for by in ([[]], [[], row], [row, []], [row, [], row]):
                    self.assertEqual(refusal_of(reduced, 7, order, one, by), "ByNought", (order, one, by))


class Reduced(unittest.TestCase):
    def look_at(self, prime, order, many, row, by):
        answer = reduced(prime, order, row, by)
        told = (prime, order, row, by, answer)
        self.assertIsInstance(answer, tuple, told)
        self.assertEqual(len(answer), 2, told)
        quotients, rest = answer
        top = lead_of(order, row)[0] if row else None
        self.assertIsNone(fault_of_quotients(prime, order, many, quotients, by, top), told)
        self.assertIsNone(fault_of_sum(prime, many, rest), told)
        self.assertEqual(slow_plus(prime, slow_combined(prime, quotients, by), rest), row, told)
        leads = [lead_of(order, one)[0] for one in by]
        for exponents, number in rest:
            self.assertFalse(any(all_divide(lead, exponents) for lead in leads), told)
        return answer

    def test_29_single_terms(self):
        for order in ORDERS:
            self.assertEqual(self.look_at(7, order, 2, [((2, 1), 3)], [[((1, 1), 2)]]), ([[((1, 0), 5)]], []))
            self.assertEqual(self.look_at(7, order, 2, [((2, 1), 3)], [[((1, 2), 2)]]), ([[]], [((2, 1), 3)]))
            self.assertEqual(self.look_at(7, order, 2, [((2, 1), 3)], [[((2, 1), 3)]]), ([[((0, 0), 1)]], []))
            self.assertEqual(self.look_at(7, order, 2, [((2, 1), 3)], [[((0, 0), 3)]]), ([[((2, 1), 1)]], []))

    def test_29_of_nought_all_are_nought(self):
        for order in ORDERS:
            for count in (0, 1, 2, 5):
                by = [[((1, k), 1), ((0, 0), 1)] for k in range(count)]
                self.assertEqual(self.look_at(5, order, 2, [], by), ([[] for one in by], []))

    def test_29_by_an_empty_list_the_rest_is_the_sum(self):
        drawn = drawn_numbers(290)
        for order in ORDERS:
            for many in (1, 2, 3, 4):
                row = drawn_boxed(drawn, 31, many, 3, 6)
                self.assertEqual(self.look_at(31, order, many, row, []), ([], row))

    def test_29_where_the_orders_part(self):
        row, by = [((1, 0), 1), ((0, 2), 1)], [[((1, 0), 1), ((0, 2), 2)]]
        self.assertEqual(self.look_at(5, "lex", 2, row, by), ([[((0, 0), 1)]], [((0, 2), 4)]))
        self.assertEqual(self.look_at(5, "deg", 2, row, by), ([[((0, 0), 3)]], [((1, 0), 3)]))

    def test_29_drawn_sums(self):
        drawn = drawn_numbers(29)
        for prime in (2, 3, 31, 97):
            for many, highest, terms in ((1, 8, 9), (2, 4, 8), (3, 2, 6), (4, 2, 5)):
                for count in (1, 2, 3, 4):
                    for order in ORDERS:
                        row = drawn_boxed(drawn, prime, many, highest + 1, 20)
                        by = [drawn_boxed(drawn, prime, many, highest, 1 + next(drawn) % terms) for k in range(count)]
                        self.look_at(prime, order, many, row, by)

    def test_29_what_is_made_by_one_alone_leaves_no_rest(self):
        drawn = drawn_numbers(291)
        for prime in (2, 5, 97, 997):
            for many in (1, 2, 3):
                for order in ORDERS:
                    by = drawn_sum(drawn, prime, many, 3, 4)
                    factor = drawn_sum(drawn, prime, many, 3, 4)
                    if by:
                        row = slow_combined(prime, [factor], [by])
                        self.assertEqual(self.look_at(prime, order, many, row, [by]), ([factor], []))

    def test_29_by_a_base_there_is_just_one_rest(self):
        drawn = drawn_numbers(292)
        for prime in (2, 7, 97):
            for many, highest, terms in ((1, 8, 6), (2, 3, 4), (3, 2, 3)):
                for order in ORDERS:
                    given = [drawn_boxed(drawn, prime, many, highest, terms) for k in range(2)]
                    rows = base(prime, order, given)[0]
                    row = drawn_boxed(drawn, prime, many, highest, 10)
                    rest = self.look_at(prime, order, many, row, rows)[1]
                    self.assertEqual(self.look_at(prime, order, many, row, rows[::-1])[1], rest)
                    factors = [drawn_boxed(drawn, prime, many, 2, 3) for one in given]
                    other = slow_plus(prime, row, slow_combined(prime, factors, given))
                    self.assertEqual(self.look_at(prime, order, many, other, rows)[1], rest)

    def test_29_great_exponents(self):
        for order in ORDERS:
            self.look_at(5, order, 2, [((99, 0), 1), ((0, 99), 1)], [[((1, 0), 1), ((0, 1), 1)]])
            self.look_at(5, order, 1, [((400,), 1), ((0,), 1)], [[((2,), 2), ((0,), 1)]])


if __name__ == "__main__":
    unittest.main()
