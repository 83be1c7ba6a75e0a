"""Promises [33] to [35], and what is refused first by [4], [14] and [30]."""

import unittest

from polyring.asked import member, same, without
from polyring.bases import base
from polyring.reducing import reduced
from things import (BASE_SIZES, Odd, all_divide, drawn_boxed, drawn_given, drawn_numbers, fault_of_sum, lead_of,
                    no_orders, no_primes, refusal_of, slow_combined, slow_plus, slow_times)

ORDERS = ("lex", "deg")


class Refusals(unittest.TestCase):
    def test_33_34_35_what_is_no_prime_is_refused_first(self):
        row = [((1,), 1)]
        for place, prime in enumerate(no_primes()):
            with self.subTest(place=place):
                for given in ([row], [], [[]], None):
                    for order in ("lex", "deg", "", None):
                        self.assertEqual(refusal_of(member, prime, order, given, row), "NoPrime")
                    self.assertEqual(refusal_of(same, prime, given, [row]), "NoPrime")
                    self.assertEqual(refusal_of(same, prime, [row], given), "NoPrime")
                    for count in (0, 1, -1, None):
                        self.assertEqual(refusal_of(without, prime, given, count), "NoPrime")

    def test_33_then_what_is_no_order(self):
        for place, order in enumerate(no_orders()):
            with self.subTest(place=place):
                for given in ([[((1,), 1)]], [], [[]], None):
                    self.assertEqual(refusal_of(member, 7, order, given, [((1,), 1)]), "NoOrder")

    def test_33_34_35_then_an_empty_list(self):
        row = [((1,), 1)]
        for order in ORDERS:
            self.assertEqual(refusal_of(member, 7, order, [], row), "NoSums")
            self.assertEqual(refusal_of(member, 7, order, [], []), "NoSums")
        self.assertEqual(refusal_of(same, 7, [], [row]), "NoSums")
        self.assertEqual(refusal_of(same, 7, [row], []), "NoSums")
        self.assertEqual(refusal_of(same, 7, [], []), "NoSums")
        for count in (0, 1, -1, None, True):
            self.assertEqual(refusal_of(without, 7, [], count), "NoSums")


class Member(unittest.TestCase):
    def look_at(self, prime, order, many, given, row):
        answer = member(prime, order, given, row)
        told = (prime, order, given, row)
        self.assertIsInstance(answer, tuple, told)
        self.assertEqual(len(answer), 3, told)
        yes, sums, rest = answer
        self.assertIn(yes, (True, False), told)
        self.assertIsInstance(yes, bool, told)
        self.assertIsInstance(sums, list, told)
        self.assertEqual(len(sums), len(given), told)
        for part in sums + [rest]:
            self.assertIsNone(fault_of_sum(prime, many, part), told)
        self.assertEqual(slow_plus(prime, slow_combined(prime, sums, given), rest), row, told)
        self.assertIs(yes, rest == [], told)
        rows = base(prime, order, given)[0]
        for exponents, number in rest:
            self.assertFalse(any(all_divide(lead_of(order, one)[0], exponents) for one in rows), told)
        self.assertEqual(reduced(prime, order, row, rows)[1], rest, told)
        return answer

    def test_33_what_the_given_ones_make(self):
        drawn = drawn_numbers(33)
        for prime in (2, 5, 31, 97):
            for size in BASE_SIZES:
                for count in (1, 2, 3):
                    given = drawn_given(drawn, prime, size, count)
                    factors = [drawn_boxed(drawn, prime, size[0], 1, 2) for one in given]
                    row = slow_combined(prime, factors, given)
                    for order in ORDERS:
                        self.assertIs(self.look_at(prime, order, size[0], given, row)[0], True)
                        for one in given:
                            self.assertIs(self.look_at(prime, order, size[0], given, one)[0], True)

    def test_33_drawn_sums_of_the_told_size(self):
        drawn = drawn_numbers(331)
        for prime in (2, 3, 97):
            for size in BASE_SIZES:
                for count in (1, 2, 3, 4):
                    given = drawn_given(drawn, prime, size, count)
                    row = drawn_boxed(drawn, prime, size[0], 4, 20)
                    yes = {self.look_at(prime, order, size[0], given, row)[0] for order in ORDERS}
                    self.assertEqual(len(yes), 1)

    def test_33_made_ones_and_a_rest(self):
        drawn = drawn_numbers(332)
        for prime in (3, 31):
            for size in BASE_SIZES:
                given = drawn_given(drawn, prime, size, 2)
                row = drawn_boxed(drawn, prime, size[0], 4, 8)
                factors = [drawn_boxed(drawn, prime, size[0], 1, 2) for one in given]
                other = slow_plus(prime, row, slow_combined(prime, factors, given))
                for order in ORDERS:
                    rest = self.look_at(prime, order, size[0], given, row)[2]
                    self.assertEqual(self.look_at(prime, order, size[0], given, other)[2], rest)

    def test_33_nought_is_always_made(self):
        drawn = drawn_numbers(333)
        for order in ORDERS:
            for size in BASE_SIZES:
                answer = self.look_at(7, order, size[0], drawn_given(drawn, 7, size, 2), [])
                self.assertEqual((answer[0], answer[2]), (True, []))

    def test_33_noughts_alone(self):
        row = [((1, 1), 3), ((0, 0), 1)]
        for order in ORDERS:
            for count in (1, 2, 4):
                given = [[] for k in range(count)]
                self.assertEqual(self.look_at(7, order, 2, given, row)[::2], (False, row))
                self.assertEqual(self.look_at(7, order, 2, given, [])[::2], (True, []))

    def test_33_with_a_number_alone_all_is_made(self):
        drawn = drawn_numbers(334)
        for order in ORDERS:
            given = [[((1, 1), 1)], [((1, 1), 1), ((0, 0), 2)]]
            self.assertIs(self.look_at(7, order, 2, given, drawn_boxed(drawn, 7, 2, 4, 20))[0], True)

    def test_33_told_examples(self):
        given = [[((2, 0), 1), ((0, 1), 1)], [((1, 1), 1), ((0, 0), 6)]]
        self.assertEqual(self.look_at(7, "lex", 2, given, [((2, 0), 1)])[2], [((0, 1), 6)])
        self.assertEqual(self.look_at(7, "deg", 2, given, [((0, 3), 1)])[2], [((0, 0), 6)])
        self.assertEqual(self.look_at(7, "deg", 2, given, [((0, 2), 1)])[2], [((1, 0), 6)])
        self.assertEqual(self.look_at(7, "lex", 2, given, [((1, 0), 1)])[2], [((0, 2), 6)])


class Same(unittest.TestCase):
    def test_34_lists_that_make_the_same(self):
        drawn = drawn_numbers(34)
        for prime in (2, 5, 97):
            for many, highest, terms in ((1, 6, 4), (2, 3, 4), (3, 1, 4)):
                one, other = [drawn_boxed(drawn, prime, many, highest, terms) for k in range(2)]
                factor = drawn_boxed(drawn, prime, many, 1, 2)
                changed = slow_plus(prime, other, slow_times(prime, factor, one))
                for pair in (([one, other], [other, one]), ([one, other], [one, changed]), ([one], [one, one, []]),
                             ([one, other], [slow_times(prime, one, other), changed, one]),
                             ([one], [slow_times(prime, [((0,) * many, prime - 1)], one)])):
                    self.assertIs(same(prime, *pair), True, (prime, pair))
                    self.assertIs(same(prime, *pair[::-1]), True, (prime, pair))

    def test_34_lists_that_do_not(self):
        drawn = drawn_numbers(341)
        tried = 0
        for prime in (2, 5, 97):
            for many, highest, terms in ((1, 6, 4), (2, 3, 4), (3, 2, 4)):
                one, other = [drawn_boxed(drawn, prime, many, highest, terms) for k in range(2)]
                x = [((1,) + (0,) * (many - 1), 1)]
                tries = [([one], [slow_times(prime, one, x)]), ([one], [slow_times(prime, one, one)])]
                if len(one) == 1 and not any(one[0][0]):
                    tries = []
                if not member(prime, "deg", [one], other)[0]:
                    tries.append(([one], [one, other]))
                for pair in tries:
                    tried += 1
                    self.assertIs(same(prime, *pair), False, (prime, pair))
                    self.assertIs(same(prime, *pair[::-1]), False, (prime, pair))
        self.assertGreater(tried, 15)

    def test_34_by_members_both_ways(self):
        drawn = drawn_numbers(342)
        for prime in (2, 3):
            for many, highest in ((1, 3), (2, 1)):
                for round_ in range(40):
                    lists = [[drawn_boxed(drawn, prime, many, highest, 1 + next(drawn) % 2) for k in range(2)]
                             for side in range(2)]
                    wanted = all(member(prime, "lex", lists[side], row)[0] for side in range(2)
                                 for row in lists[1 - side])
                    self.assertIs(same(prime, *lists), wanted, lists)

    def test_34_noughts(self):
        row = [((1, 0), 1)]
        self.assertIs(same(7, [[]], [[]]), True)
        self.assertIs(same(7, [[]], [[], [], []]), True)
        self.assertIs(same(7, [[]], [row]), False)
        self.assertIs(same(7, [row], [[]]), False)
        self.assertIs(same(7, [row, []], [[], row]), True)

    def test_34_all_and_all(self):
        one, row = [((0, 0), 3)], [((1, 1), 1)]
        self.assertIs(same(7, [one], [row, [((1, 1), 2), ((0, 0), 1)]]), True)
        self.assertIs(same(7, [one], [row]), False)


class Without(unittest.TestCase):
    def look_at(self, prime, many, given, count):
        answer = without(prime, given, count)
        told = (prime, given, count)
        self.assertIsInstance(answer, list, told)
        for row in answer:
            self.assertIsNone(fault_of_sum(prime, many, row), told)
        wanted = [row for row in base(prime, "lex", given)[0]
                  if not any(any(exponents[:count]) for exponents, number in row)]
        self.assertEqual(answer, wanted, told)
        return answer

    def test_35_drawn_sums(self):
        drawn = drawn_numbers(35)
        told = 0
        for prime in (2, 5, 97):
            for size in BASE_SIZES:
                for count in (1, 2, 3):
                    given = drawn_given(drawn, prime, size, count)
                    for first in range(size[0]):
                        told += len(self.look_at(prime, size[0], given, first)) > 0 and first > 0
        self.assertGreater(told, 10)

    def test_35_told_examples(self):
        given = [[((2, 0), 1), ((0, 1), 1)], [((1, 1), 1), ((0, 0), 6)]]
        self.assertEqual(self.look_at(7, 2, given, 0), [[((0, 3), 1), ((0, 0), 1)], [((1, 0), 1), ((0, 2), 1)]])
        self.assertEqual(self.look_at(7, 2, given, 1), [[((0, 3), 1), ((0, 0), 1)]])
        self.assertEqual(self.look_at(7, 2, given[:1], 1), [])
        one = [((0, 0, 0), 5)]
        for count in (0, 1, 2):
            self.assertEqual(self.look_at(7, 3, [one], count), [[((0, 0, 0), 1)]])

    def test_35_what_lacks_the_unknowns_is_made_by_the_answer(self):
        given = [[((1, 0, 0), 1), ((0, 1, 1), 1)], [((1, 1, 0), 1), ((0, 0, 2), 2)], [((0, 2, 0), 1), ((0, 0, 0), 3)]]
        for count in (1, 2):
            rows = self.look_at(5, 3, given, count)
            self.assertTrue(rows)
            for row in rows:
                self.assertIs(member(5, "deg", given, row)[0], True)

    def test_35_counts_out_of_their_bounds(self):
        for many in (1, 2, 3):
            given = [[((1,) * many, 1), ((0,) * many, 1)]]
            for count in range(many):
                self.assertIsNone(refusal_of(without, 7, given, count))
            wrong = [-1, many, many + 1, 4, 5, 10 ** 40, -(10 ** 40), True, False, None, "", "0", "1", (), (0,), [], [0],
                     {}, set(), b"0", 1j, object(), Odd(), int]
            for place, count in enumerate(wrong):
                with self.subTest(many=many, place=place):
                    self.assertEqual(refusal_of(without, 7, given, count), "NoCount")
                    self.assertEqual(refusal_of(without, 7, [[], given[0], []], count), "NoCount")

    def test_35_of_noughts_alone_it_is_empty_whatever_the_count(self):
        for given in ([[]], [[], []], [[], [], [], []]):
            for count in (0, 1, 3, 4, -1, 10 ** 40, True, False, None, "", "x", (), [], object(), Odd()):
                self.assertEqual(without(7, given, count), [])


if __name__ == "__main__":
    unittest.main()
