"""Promises [14] and [15], and of [4] what is refused first."""

import unittest
from itertools import permutations

from polyring.orders import divides, higher, lead, least, less
from things import SAMPLE_RINGS, each_exponents, no_orders, refusal_of, sample_sums, standing_of

# Each list falls by its order: each one stands higher than all behind it.
FALLING_LEX = ((2, 0, 0), (1, 9, 9), (1, 1, 0), (1, 0, 5), (1, 0, 0), (0, 99, 0), (0, 1, 98), (0, 0, 100), (0, 0, 0))
FALLING_DEG = ((0, 0, 100), (0, 99, 0), (0, 1, 98), (1, 9, 9), (1, 0, 5), (2, 0, 0), (1, 1, 0), (1, 0, 0), (0, 0, 0))


class Higher(unittest.TestCase):
    def test_14_lists_that_fall(self):
        for order, falling in (("lex", FALLING_LEX), ("deg", FALLING_DEG)):
            for place, one in enumerate(falling):
                for other_place, other in enumerate(falling):
                    self.assertIs(higher(order, one, other), place < other_place, (order, one, other))

    def test_14_where_the_orders_part(self):
        for one, other in (((1, 0), (0, 2)), ((1, 0, 0), (0, 1, 1)), ((1, 0, 0, 0), (0, 0, 0, 2)), ((2, 1), (1, 3))):
            self.assertIs(higher("lex", one, other), True)
            self.assertIs(higher("lex", other, one), False)
            self.assertIs(higher("deg", one, other), False)
            self.assertIs(higher("deg", other, one), True)

    def test_14_of_like_sums_those_that_stand_higher_as_tuples(self):
        for one, other in (((2, 0), (1, 1)), ((1, 1), (0, 2)), ((1, 0, 1), (0, 2, 0)), ((1, 1, 0), (1, 0, 1)),
                           ((3, 0, 0, 0), (0, 0, 0, 3)), ((0, 2, 0, 1), (0, 1, 2, 0))):
            for order in ("lex", "deg"):
                self.assertIs(higher(order, one, other), True, (order, one, other))
                self.assertIs(higher(order, other, one), False, (order, one, other))

    def test_14_the_same_ones_are_not_higher(self):
        for order in ("lex", "deg"):
            for exponents in ((0,), (7,), (0, 0), (3, 1), (1, 2, 3), (0, 0, 0, 9)):
                self.assertIs(higher(order, exponents, tuple(list(exponents))), False)

    def test_14_every_pair_of_small_ones(self):
        for many, highest in ((1, 6), (2, 4), (3, 2), (4, 1)):
            for one in each_exponents(many, highest):
                for other in each_exponents(many, highest):
                    for order in ("lex", "deg"):
                        wanted = standing_of(order, one) > standing_of(order, other)
                        self.assertIs(higher(order, one, other), wanted, (order, one, other))

    def test_14_what_is_no_order(self):
        for place, order in enumerate(no_orders()):
            with self.subTest(place=place):
                self.assertEqual(refusal_of(higher, order, (1, 0), (0, 1)), "NoOrder")
                self.assertEqual(refusal_of(higher, order, (1, 0), (1, 0)), "NoOrder")
                self.assertEqual(refusal_of(higher, order, None, None), "NoOrder")


class Lead(unittest.TestCase):
    def test_14_by_lex_it_is_the_first_term(self):
        for ring in SAMPLE_RINGS:
            for many in (1, 2, 3, 4):
                for row in sample_sums(ring, many):
                    if row:
                        self.assertEqual(lead("lex", row), row[0])

    def test_14_by_deg_it_is_the_highest_one(self):
        others = 0
        for ring in SAMPLE_RINGS:
            for many in (1, 2, 3, 4):
                for row in sample_sums(ring, many):
                    if row:
                        wanted = max(row, key=lambda term: standing_of("deg", term[0]))
                        self.assertEqual(lead("deg", row), wanted)
                        others += wanted != row[0]
        self.assertGreater(others, 5)

    def test_14_told_examples(self):
        row = [((1, 0), 4), ((0, 3), 5), ((0, 2), 6)]
        self.assertEqual(lead("lex", row), ((1, 0), 4))
        self.assertEqual(lead("deg", row), ((0, 3), 5))
        row = [((2, 0, 0), -1), ((1, 1, 0), 7), ((0, 0, 2), 9)]
        self.assertEqual(lead("deg", row), ((2, 0, 0), -1))
        row = [((1, 0, 0), 1), ((0, 2, 1), 2), ((0, 1, 2), 3), ((0, 0, 3), 4)]
        self.assertEqual(lead("deg", row), ((0, 2, 1), 2))
        self.assertEqual(lead("deg", [((0, 0), -8)]), ((0, 0), -8))

    def test_14_a_term_is_a_pair(self):
        for order in ("lex", "deg"):
            answer = lead(order, [((1, 2), 3), ((0, 9), 4)])
            self.assertIsInstance(answer, tuple)
            self.assertEqual(len(answer), 2)
            self.assertIsInstance(answer[0], tuple)

    def test_14_nought_is_refused(self):
        for order in ("lex", "deg"):
            self.assertEqual(refusal_of(lead, order, []), "NoLead")

    def test_14_what_is_no_order_is_refused_first(self):
        for place, order in enumerate(no_orders()):
            with self.subTest(place=place):
                self.assertEqual(refusal_of(lead, order, [((1, 0), 4), ((0, 3), 5)]), "NoOrder")
                self.assertEqual(refusal_of(lead, order, [((1, 0), 4)]), "NoOrder")
                self.assertEqual(refusal_of(lead, order, []), "NoOrder")
                self.assertEqual(refusal_of(lead, order, None), "NoOrder")

    def test_4_the_sum_stays_as_it_was(self):
        for order in ("lex", "deg"):
            row = [((1, 0), 4), ((0, 3), 5), ((0, 2), 6)]
            lead(order, row)
            self.assertEqual(row, [((1, 0), 4), ((0, 3), 5), ((0, 2), 6)])


class Exponents(unittest.TestCase):
    def test_15_every_pair_of_small_ones(self):
        for many, highest in ((1, 6), (2, 3), (3, 2), (4, 1)):
            for one in each_exponents(many, highest):
                for other in each_exponents(many, highest):
                    told = (one, other)
                    wanted = sum(a > b for a, b in zip(one, other)) == 0
                    self.assertIs(divides(one, other), wanted, told)
                    both = least(one, other)
                    self.assertIsInstance(both, tuple)
                    self.assertEqual(both, tuple(a if a > b else b for a, b in zip(one, other)), told)
                    self.assertEqual(both, least(other, one), told)
                    if divides(other, one):
                        rest = less(one, other)
                        self.assertIsInstance(rest, tuple)
                        self.assertEqual(tuple(a + b for a, b in zip(rest, other)), one, told)

    def test_15_alike_one_below_turned_about(self):
        for one in ((3,), (3, 4), (3, 4, 5), (3, 4, 5, 6)):
            self.assertIs(divides(one, one), True)
            self.assertEqual(least(one, one), one)
            self.assertEqual(less(one, one), (0,) * len(one))
            for place in range(len(one)):
                below = one[:place] + (one[place] - 1,) + one[place + 1:]
                self.assertIs(divides(below, one), True)
                self.assertIs(divides(one, below), False)
                self.assertEqual(least(one, below), one)
                self.assertEqual(least(below, one), one)
                self.assertEqual(less(one, below), tuple(int(k == place) for k in range(len(one))))

    def test_15_turned_places_divide_neither_way(self):
        for one in ((0, 1), (0, 1, 2), (0, 1, 2, 3)):
            for other in permutations(one):
                self.assertIs(divides(one, other), one == other)

    def test_15_great_ones(self):
        self.assertIs(divides((10 ** 30, 0), (10 ** 30, 5)), True)
        self.assertIs(divides((10 ** 30 + 1, 0), (10 ** 30, 5)), False)
        self.assertEqual(least((10 ** 30, 2), (7, 10 ** 31)), (10 ** 30, 10 ** 31))
        self.assertEqual(less((10 ** 30, 99), (1, 98)), (10 ** 30 - 1, 1))


if __name__ == "__main__":
    unittest.main()
