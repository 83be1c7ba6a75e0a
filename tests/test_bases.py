"""Promises [30] to [32], and what is refused first by [4] and [14]."""

import unittest
from itertools import combinations, permutations

from polyring.bases import base, differences
from things import (BASE_SIZES, all_divide, drawn_boxed, drawn_given, drawn_numbers, fault_of_quotients, fault_of_sum,
                    from_dict, lead_of, no_orders, no_primes, refusal_of, slow_combined, slow_plus, slow_times,
                    standing_of)

ORDERS = ("lex", "deg")


def slow_difference(prime, order, one, other):
    """The difference of [31]."""
    (e, m), (f, n) = lead_of(order, one), lead_of(order, other)
    both = tuple(map(max, e, f))
    first = [(tuple(a - b for a, b in zip(both, e)), pow(m, -1, prime))]
    second = [(tuple(a - b for a, b in zip(both, f)), pow(n, -1, prime))]
    return slow_plus(prime, slow_times(prime, first, one), slow_times(prime, second, other), -1)


class BaseCase(unittest.TestCase):
    def look_at_differences(self, prime, order, many, rows):
        """Looks at the quotients for all pairs; False where there are none."""
        answer = differences(prime, order, rows)
        if answer is None:
            return False
        told = (prime, order, rows)
        self.assertIsInstance(answer, list, told)
        self.assertEqual([entry[:2] for entry in answer], list(combinations(range(len(rows)), 2)), told)
        for entry in answer:
            self.assertIsInstance(entry, tuple, told)
            self.assertEqual(len(entry), 3, told)
            j, k, quotients = entry
            difference = slow_difference(prime, order, rows[j], rows[k])
            top = lead_of(order, difference)[0] if difference else None
            self.assertIsNone(fault_of_quotients(prime, order, many, quotients, rows, top), told)
            self.assertEqual(slow_combined(prime, quotients, rows), difference, told)
        return True

    def look_at(self, prime, order, many, given):
        answer = base(prime, order, given)
        told = (prime, order, given)
        self.assertIsInstance(answer, tuple, told)
        self.assertEqual(len(answer), 3, told)
        rows, ups, downs = answer
        self.look_at_rows(prime, order, many, rows, told)
        self.look_at_ways(prime, many, ups, rows, given, told)
        self.look_at_ways(prime, many, downs, given, rows, told)
        for place, row in enumerate(given):
            if not row:
                self.assertTrue(all(up[place] == [] for up in ups), told)
                self.assertEqual(downs[place], [[] for one in rows], told)
        return rows

    def look_at_rows(self, prime, order, many, rows, told):
        self.assertIsInstance(rows, list, told)
        for row in rows:
            self.assertIsNone(fault_of_sum(prime, many, row), told)
            self.assertNotEqual(row, [], told)
        leads = [lead_of(order, row) for row in rows]
        self.assertTrue(all(number == 1 for exponents, number in leads), told)
        stands = [standing_of(order, exponents) for exponents, number in leads]
        self.assertTrue(all(one < other for one, other in zip(stands, stands[1:])), told)
        for place, row in enumerate(rows):
            others = [lead[0] for k, lead in enumerate(leads) if k != place]
            for exponents, number in row:
                self.assertFalse(any(all_divide(lead, exponents) for lead in others), told)
        self.assertTrue(self.look_at_differences(prime, order, many, rows), told)

    def look_at_ways(self, prime, many, ways, made, given, told):
        """Each of made is given, each times its sum of ways."""
        self.assertIsInstance(ways, list, told)
        self.assertEqual(len(ways), len(made), told)
        for factors, row in zip(ways, made):
            self.assertIsInstance(factors, list, told)
            self.assertEqual(len(factors), len(given), told)
            for factor in factors:
                self.assertIsNone(fault_of_sum(prime, many, factor), told)
            self.assertEqual(slow_combined(prime, factors, given), row, told)


class Refusals(unittest.TestCase):
    def test_30_31_what_is_no_prime_is_refused_first(self):
        for place, prime in enumerate(no_primes()):
            with self.subTest(place=place):
                for order in ("lex", "deg", "", None):
                    for action in (base, differences):
                        for rows in ([[((1,), 1)]], [], [[]], None):
                            self.assertEqual(refusal_of(action, prime, order, rows), "NoPrime")

    def test_30_31_then_what_is_no_order(self):
        for place, order in enumerate(no_orders()):
            with self.subTest(place=place):
                for action in (base, differences):
                    for rows in ([[((1,), 1)]], [], [[]], None):
                        self.assertEqual(refusal_of(action, 7, order, rows), "NoOrder")

    def test_30_then_an_empty_list(self):
        for order in ORDERS:
            self.assertEqual(refusal_of(base, 7, order, []), "NoSums")

    def test_31_then_a_nought(self):
        row = [((1, 1), 1), ((0, 0), 2)]
        for order in ORDERS:
            for rows in ([[]], [[], []], [[], row], [row, []], [row, row, []], [[((1, 0), 1)], [((0, 1), 1), ((0, 0), 1)], []]):
                self.assertEqual(refusal_of(differences, 7, order, rows), "ByNought", (order, rows))


class Base(BaseCase):
    def test_30_told_examples(self):
        given = [[((2, 0), 1), ((0, 1), 1)], [((1, 1), 1), ((0, 0), 6)]]
        self.assertEqual(self.look_at(7, "lex", 2, given), [[((0, 3), 1), ((0, 0), 1)], [((1, 0), 1), ((0, 2), 1)]])
        self.assertEqual(self.look_at(7, "deg", 2, given),
                         [[((1, 0), 1), ((0, 2), 1)], [((1, 1), 1), ((0, 0), 6)], [((2, 0), 1), ((0, 1), 1)]])

    def test_30_one_sum(self):
        drawn = drawn_numbers(301)
        for prime in (2, 3, 31, 97):
            for size in BASE_SIZES:
                for order in ORDERS:
                    for given in (drawn_given(drawn, prime, size, 1), [[((1,) * size[0], prime - 1)]]):
                        rows = self.look_at(prime, order, size[0], given)
                        back = pow(lead_of(order, given[0])[1], -1, prime)
                        self.assertEqual(rows, [from_dict(prime, {e: number * back for e, number in given[0]})])

    def test_30_drawn_sums_of_the_told_sizes(self):
        drawn = drawn_numbers(30)
        for prime in (2, 3, 5, 31, 97):
            for size in BASE_SIZES:
                for count in (2, 3, 4):
                    given = drawn_given(drawn, prime, size, count)
                    for order in ORDERS:
                        self.look_at(prime, order, size[0], given)

    def test_30_full_sums_of_the_told_sizes(self):
        drawn = drawn_numbers(302)
        for prime in (5, 97):
            for many, highest, terms in BASE_SIZES:
                for count in (2, 3, 4):
                    given = [drawn_boxed(drawn, prime, many, highest, terms) for k in range(count)]
                    for order in ORDERS:
                        self.look_at(prime, order, many, given)

    def test_30_single_terms(self):
        for order in ORDERS:
            rows = self.look_at(5, order, 2, [[((3, 1), 2)], [((1, 2), 1)], [((2, 1), 4)], [((1, 3), 3)]])
            self.assertEqual(sorted(rows), [[((1, 2), 1)], [((2, 1), 1)]])

    def test_30_in_one_unknown_it_is_one_row(self):
        drawn = drawn_numbers(303)
        for prime in (2, 7, 97):
            part = drawn_boxed(drawn, prime, 1, 3, 3)
            given = [slow_times(prime, part, drawn_boxed(drawn, prime, 1, 4, 4)) for k in range(3)]
            rows = self.look_at(prime, "lex", 1, given)
            self.assertEqual(len(rows), 1)
            self.assertEqual(self.look_at(prime, "deg", 1, given), rows)

    def test_30_noughts_alone(self):
        for order in ORDERS:
            for count in (1, 2, 3, 4):
                self.assertEqual(base(7, order, [[] for k in range(count)]), ([], [], [[] for k in range(count)]))

    def test_30_noughts_among_others(self):
        drawn = drawn_numbers(304)
        for prime in (3, 97):
            for size in BASE_SIZES:
                one, other = drawn_given(drawn, prime, size, 2)
                for order in ORDERS:
                    rows = self.look_at(prime, order, size[0], [one, other])
                    for given in ([[], one, other], [one, [], other], [one, other, []], [[], one, [], other]):
                        self.assertEqual(self.look_at(prime, order, size[0], given), rows)

    def test_30_like_ones_and_turned_about(self):
        drawn = drawn_numbers(305)
        for prime in (2, 31):
            for size in BASE_SIZES:
                given = drawn_given(drawn, prime, size, 3)
                for order in ORDERS:
                    rows = self.look_at(prime, order, size[0], given)
                    for turned in permutations(given):
                        self.assertEqual(self.look_at(prime, order, size[0], list(turned)), rows)
                    self.assertEqual(self.look_at(prime, order, size[0], given + [given[0]]), rows)
                    self.assertEqual(self.look_at(prime, order, size[0], [given[2]] + given), rows)
                    self.assertEqual(len(self.look_at(prime, order, size[0], [given[1]] * 4)), 1)

    def test_30_lists_that_make_the_same(self):
        drawn = drawn_numbers(306)
        for prime in (2, 5, 97):
            for many, highest, terms in ((1, 6, 4), (2, 3, 4), (3, 1, 4)):
                one, other = [drawn_boxed(drawn, prime, many, highest, terms) for k in range(2)]
                factor = drawn_boxed(drawn, prime, many, 1, 2)
                changed = slow_plus(prime, other, slow_times(prime, factor, one))
                product = slow_times(prime, one, other)
                for order in ORDERS:
                    rows = self.look_at(prime, order, many, [one, other])
                    self.assertEqual(self.look_at(prime, order, many, [one, changed]), rows)
                    self.assertEqual(self.look_at(prime, order, many, [changed, one, product]), rows)
                    self.assertEqual(self.look_at(prime, order, many, [product, one, other, changed]), rows)

    def test_30_with_a_number_alone_it_is_1(self):
        for many in (1, 2, 3):
            one = [((0,) * many, 1)]
            row = [((1,) * many, 3), ((0,) * many, 2)]
            for order in ORDERS:
                self.assertEqual(self.look_at(7, order, many, [[((0,) * many, 4)]]), [one])
                self.assertEqual(self.look_at(7, order, many, [row, [((0,) * many, 4)]]), [one])
                self.assertEqual(self.look_at(7, order, many, [row, slow_plus(7, row, one)]), [one])
                self.assertEqual(self.look_at(7, order, many, [slow_plus(7, slow_times(7, row, row), one), row]), [one])

    def test_30_32_the_rows_that_come_of_such(self):
        drawn = drawn_numbers(307)
        for prime in (3, 97):
            for size in BASE_SIZES:
                given = drawn_given(drawn, prime, size, 3)
                rows = {order: self.look_at(prime, order, size[0], given) for order in ORDERS}
                for order in ORDERS:
                    for other in ORDERS:
                        if len(rows[other]) <= 4:
                            self.assertEqual(self.look_at(prime, order, size[0], rows[other]), rows[order])

    def test_30_four_unknowns(self):
        drawn = drawn_numbers(308)
        for prime in (2, 7):
            given = [drawn_boxed(drawn, prime, 4, 1, 3) for k in range(3)]
            for order in ORDERS:
                self.look_at(prime, order, 4, given)


class Differences(BaseCase):
    def test_31_fewer_than_two(self):
        for order in ORDERS:
            self.assertEqual(differences(7, order, []), [])
            self.assertEqual(differences(7, order, [[((1, 0), 3), ((0, 0), 1)]]), [])

    def test_31_a_difference_of_nought(self):
        row = [((2, 1), 3), ((0, 1), 1)]
        other = [((2, 1), 6), ((0, 1), 2)]
        for order in ORDERS:
            self.assertEqual(differences(7, order, [row, other]), [(0, 1, [[], []])])
            self.assertEqual(differences(7, order, [[((1, 0), 2)], [((0, 3), 5)]]), [(0, 1, [[], []])])

    def test_31_leads_without_a_common_unknown(self):
        rows = [[((2, 0), 3), ((1, 0), 1), ((0, 0), 2)], [((0, 3), 2), ((0, 1), 5)]]
        for order in ORDERS:
            self.assertTrue(self.look_at_differences(7, order, 2, rows))

    def test_31_where_it_is_none(self):
        rows = [[((2, 0), 1), ((0, 1), 1)], [((1, 1), 1), ((0, 0), 6)]]
        for order in ORDERS:
            self.assertIsNone(differences(7, order, rows))
            self.assertIsNone(differences(7, order, rows[::-1]))
        self.assertIsNone(differences(7, "lex", [[((1, 0), 1), ((0, 0), 1)], [((1, 1), 1)]]))
        self.assertIsNone(differences(7, "lex", [[((1, 0), 1)], [((1, 0), 1), ((0, 0), 1)]]))

    def test_31_the_order_tells(self):
        rows = [[((1, 0), 1), ((0, 2), 1)], [((1, 0), 1)]]
        self.assertIsNone(differences(5, "lex", rows))
        self.assertTrue(self.look_at_differences(5, "deg", 2, rows))
        rows = [[((1, 0), 1), ((0, 2), 1)], [((0, 3), 1)]]
        self.assertTrue(self.look_at_differences(5, "lex", 2, rows))
        self.assertIsNone(differences(5, "deg", rows))

    def test_31_none_just_where_the_base_has_a_lead_that_none_divides(self):
        drawn = drawn_numbers(31)
        told, untold = 0, 0
        for prime in (2, 5, 97):
            for many, highest, terms in ((1, 4, 3), (2, 2, 1), (2, 2, 2), (2, 3, 3), (3, 1, 2), (3, 2, 2)):
                for count in (2, 3):
                    for round_ in range(4):
                        rows = [drawn_boxed(drawn, prime, many, highest, terms) for k in range(count)]
                        for order in ORDERS:
                            leads = [lead_of(order, row)[0] for row in rows]
                            tops = [lead_of(order, row)[0] for row in base(prime, order, rows)[0]]
                            wanted = all(any(all_divide(lead, top) for lead in leads) for top in tops)
                            self.assertIs(self.look_at_differences(prime, order, many, rows), wanted, (order, rows))
                            told += wanted
                            untold += not wanted
        self.assertTrue(told > 20 and untold > 20, (told, untold))

    def test_31_more_than_a_base_needs(self):
        drawn = drawn_numbers(311)
        for prime in (3, 31):
            for size in BASE_SIZES:
                given = drawn_given(drawn, prime, size, 2)
                for order in ORDERS:
                    rows = base(prime, order, given)[0]
                    more = rows[::-1] + [slow_times(prime, [((0,) * size[0], prime - 1)], row) for row in given]
                    self.assertTrue(self.look_at_differences(prime, order, size[0], more))


if __name__ == "__main__":
    unittest.main()
