"""Promises [2] and [10] to [13], and of [4] that a ring is looked at first."""

import unittest
from itertools import permutations

from polyring.sums import constant, made, minus, plus, raised, scaled, slope, times, value
from things import (SAMPLE_RINGS, Odd, fault_of_sum, from_dict, is_plain_number, no_rings, no_unknowns, refusal_of,
                    sample_sums, slow_plus, slow_times, slow_value)

GREAT = 1234567890123456789012345678901234567890123
DOC_SUM = [((2, 0), 3), ((0, 1), -1), ((0, 0), 5)]


class SumCase(unittest.TestCase):
    def same_sum(self, ring, many, row, wanted, told=None):
        self.assertIsNone(fault_of_sum(ring, many, row), told)
        self.assertEqual(row, wanted, told)

    def each_sample(self):
        for ring in SAMPLE_RINGS:
            for many in (1, 2, 3, 4):
                yield ring, many, sample_sums(ring, many)


class RingFirst(unittest.TestCase):
    def test_4_what_is_no_ring_is_refused_where_all_else_is_right(self):
        row = [((1, 1), 1), ((0, 0), 1)]
        for place, thing in enumerate(no_rings()):
            with self.subTest(place=place):
                self.assertEqual(refusal_of(made, thing, 2, [((1, 1), 1)]), "NoRing")
                self.assertEqual(refusal_of(constant, thing, 2, 1), "NoRing")
                for action in (plus, minus, times):
                    self.assertEqual(refusal_of(action, thing, row, row), "NoRing")
                self.assertEqual(refusal_of(scaled, thing, row, 1), "NoRing")
                self.assertEqual(refusal_of(raised, thing, row, 1), "NoRing")
                self.assertEqual(refusal_of(value, thing, row, [1, 1]), "NoRing")
                self.assertEqual(refusal_of(slope, thing, row, 0), "NoRing")

    def test_4_and_where_nothing_would_be_left_to_do(self):
        for place, thing in enumerate(no_rings()):
            with self.subTest(place=place):
                self.assertEqual(refusal_of(made, thing, 1, []), "NoRing")
                self.assertEqual(refusal_of(constant, thing, 1, 0), "NoRing")
                for action in (plus, minus, times):
                    self.assertEqual(refusal_of(action, thing, [], []), "NoRing")
                self.assertEqual(refusal_of(scaled, thing, [], 0), "NoRing")
                self.assertEqual(refusal_of(raised, thing, [], 1), "NoRing")
                self.assertEqual(refusal_of(value, thing, [], []), "NoRing")
                self.assertEqual(refusal_of(slope, thing, [], 0), "NoRing")

    def test_4_ahead_of_what_else_would_be_refused(self):
        for place, thing in enumerate(no_rings()):
            with self.subTest(place=place):
                self.assertEqual(refusal_of(made, thing, 0, [None]), "NoRing")
                self.assertEqual(refusal_of(made, thing, 2, [None]), "NoRing")
                self.assertEqual(refusal_of(made, thing, None, None), "NoRing")
                self.assertEqual(refusal_of(constant, thing, 5, None), "NoRing")
                for action in (plus, minus, times):
                    self.assertEqual(refusal_of(action, thing, None, None), "NoRing")
                self.assertEqual(refusal_of(scaled, thing, None, None), "NoRing")
                self.assertEqual(refusal_of(raised, thing, [((1,), 1)], 0), "NoRing")
                self.assertEqual(refusal_of(raised, thing, None, None), "NoRing")
                self.assertEqual(refusal_of(value, thing, None, None), "NoRing")
                self.assertEqual(refusal_of(slope, thing, None, None), "NoRing")


class Made(SumCase):
    def test_2_10_the_sum_that_the_document_tells(self):
        for pairs in permutations(DOC_SUM):
            self.same_sum(0, 2, made(0, 2, list(pairs)), DOC_SUM)

    def test_10_like_exponents_are_added_up(self):
        pairs = [((1, 0), 2), ((0, 3), 4), ((1, 0), -5), ((0, 0), 1), ((0, 3), GREAT), ((1, 0), 2)]
        self.same_sum(0, 2, made(0, 2, pairs), [((1, 0), -1), ((0, 3), GREAT + 4), ((0, 0), 1)])
        self.same_sum(5, 2, made(5, 2, pairs), [((1, 0), 4), ((0, 3), (GREAT + 4) % 5), ((0, 0), 1)])

    def test_10_terms_that_come_to_nought_are_left_out(self):
        self.same_sum(0, 1, made(0, 1, [((3,), 4), ((3,), -1), ((2,), 7), ((3,), -3)]), [((2,), 7)])
        self.same_sum(0, 1, made(0, 1, [((3,), 0), ((0,), 0)]), [])
        self.same_sum(7, 1, made(7, 1, [((3,), 3), ((3,), 4), ((1,), -7), ((0,), 7 * GREAT)]), [])
        self.same_sum(2, 3, made(2, 3, [((1, 1, 1), 1), ((1, 1, 1), 1), ((0, 0, 1), -1)]), [((0, 0, 1), 1)])

    def test_10_nought_before_it_is_settled_is_added_on(self):
        self.same_sum(7, 1, made(7, 1, [((3,), 7), ((3,), 2), ((3,), 0)]), [((3,), 2)])

    def test_10_over_a_prime_numbers_are_settled(self):
        for ring in SAMPLE_RINGS[1:]:
            for number in (1, -1, ring - 1, ring + 1, -ring - 1, GREAT, -GREAT, ring * GREAT + 1):
                rest = number % ring
                self.same_sum(ring, 1, made(ring, 1, [((4,), number)]), [((4,), rest)] if rest else [])

    def test_10_over_nought_numbers_of_any_size_and_sign(self):
        for number in (1, -1, GREAT, -GREAT, 10 ** 900, -(10 ** 900)):
            self.same_sum(0, 1, made(0, 1, [((4,), number)]), [((4,), number)])

    def test_10_exponents_fall_as_tuples_do(self):
        for many in (1, 2, 3, 4):
            pairs = [(tuple((k * j * j + j) % 11 for j in range(1, many + 1)), k + 1) for k in range(11)]
            wanted = from_dict(0, dict(pairs))
            self.assertEqual(len(wanted), 11)
            for order in (pairs, pairs[::-1], pairs[5:] + pairs[:5], sorted(pairs), sorted(pairs, reverse=True)):
                self.same_sum(0, many, made(0, many, order), wanted)

    def test_10_the_first_unknown_counts_most(self):
        self.same_sum(0, 3, made(0, 3, [((0, 99, 99), 1), ((1, 0, 0), 1), ((0, 99, 98), 1), ((0, 98, 99), 1)]),
                      [((1, 0, 0), 1), ((0, 99, 99), 1), ((0, 99, 98), 1), ((0, 98, 99), 1)])

    def test_10_of_no_pairs_it_is_nought(self):
        for ring in SAMPLE_RINGS:
            for many in (1, 2, 3, 4):
                self.same_sum(ring, many, made(ring, many, []), [])

    def test_10_exponents_from_0_to_99(self):
        for many in (1, 2, 3, 4):
            pairs = [((0,) * many, 1), ((99,) * many, 1), ((0,) * (many - 1) + (99,), 2)]
            self.same_sum(0, many, made(0, many, pairs), from_dict(0, slow_totals(pairs)))

    def test_10_against_another_reckoning(self):
        for ring, many, sums in self.each_sample():
            pairs = [pair for row in sums for pair in row[::-1]] + [pair for row in sums[::2] for pair in row]
            self.same_sum(ring, many, made(ring, many, pairs), from_dict(ring, slow_totals(pairs)))

    def test_10_a_count_of_unknowns_that_is_none(self):
        for place, many in enumerate(no_unknowns()):
            with self.subTest(place=place):
                for ring in (0, 2, 997):
                    self.assertEqual(refusal_of(made, ring, many, []), "NoUnknowns")
                    self.assertEqual(refusal_of(made, ring, many, [((1,), 1)]), "NoUnknowns")

    def test_10_no_unknowns_ahead_of_no_term(self):
        for place, many in enumerate(no_unknowns()):
            with self.subTest(place=place):
                self.assertEqual(refusal_of(made, 0, many, [None]), "NoUnknowns")
                self.assertEqual(refusal_of(made, 5, many, [((100,), True)]), "NoUnknowns")
                self.assertEqual(refusal_of(made, 5, many, [((0,) * 5, 1)]), "NoUnknowns")
                self.assertEqual(refusal_of(made, 5, many, [((), 1)]), "NoUnknowns")


def slow_totals(pairs):
    totals = {}
    for exponents, number in pairs:
        totals[exponents] = totals.get(exponents, 0) + number
    return totals


def wrong_terms(many):
    """Things that are no term of so many unknowns."""
    right = (1,) * many
    yield from (None, True, False, 0, 7, "", "xy", b"xy", {}, set(), object(), Odd(), int)
    yield from ((), (right,), (right, 1, 1), [], [right, 1], right, {right: 1, 0: 1})
    yield from ((list(right), 1), (None, 1), (1, 1), ("1" * many, 1), ({}, 1), (Odd(), 1), (right + (1,), 1))
    yield from ((right[1:], 1), ((), 1), (1, right), ((right,), 1))
    yield from ((right, None), (right, True), (right, False), (right, "1"), (right, (1,)), (right, [1]), (right, Odd()))
    yield from ((right, 1j), (right, right))
    for place in range(many):
        for exponent in (-1, 100, 101, 10 ** 40, -(10 ** 40), True, False, None, "1", (1,), [1], Odd()):
            yield (right[:place] + (exponent,) + right[place + 1:], 1)


class NoTerms(unittest.TestCase):
    def test_10_each_wrong_term_at_each_place(self):
        for many in (1, 2, 3, 4):
            right = [((k,) * many, k - 2) for k in range(4)]
            for count, thing in enumerate(wrong_terms(many)):
                for place in range(5):
                    with self.subTest(many=many, count=count, place=place):
                        pairs = right[:place] + [thing] + right[place:]
                        self.assertEqual(refusal_of(made, 0, many, pairs), "NoTerm")
                        self.assertEqual(refusal_of(made, 5, many, pairs), "NoTerm")

    def test_10_alone_in_the_list(self):
        for many in (1, 2, 3, 4):
            for count, thing in enumerate(wrong_terms(many)):
                with self.subTest(many=many, count=count):
                    self.assertEqual(refusal_of(made, 2, many, [thing]), "NoTerm")

    def test_10_wrong_exponents_with_the_number_nought(self):
        for number in (0, 7, -7):
            self.assertEqual(refusal_of(made, 7, 1, [((100,), number)]), "NoTerm")
            self.assertEqual(refusal_of(made, 7, 1, [((-1,), number)]), "NoTerm")
        self.assertEqual(refusal_of(made, 0, 1, [((100,), 3), ((100,), -3)]), "NoTerm")

    def test_10_exponents_of_another_count(self):
        for many in (1, 2, 3, 4):
            for length in (0, 1, 2, 3, 4, 5):
                wanted = None if length == many else "NoTerm"
                self.assertEqual(refusal_of(made, 0, many, [((0,) * length, 1)]), wanted)


class Constant(SumCase):
    def test_11_the_number_alone(self):
        for ring in SAMPLE_RINGS:
            for many in (1, 2, 3, 4):
                for number in (0, 1, -1, 2, 5, -97, 997, GREAT, -GREAT, 997 * GREAT):
                    rest = number % ring if ring else number
                    self.same_sum(ring, many, constant(ring, many, number), [((0,) * many, rest)] if rest else [])

    def test_11_a_count_of_unknowns_that_is_none(self):
        for place, many in enumerate(no_unknowns()):
            with self.subTest(place=place):
                for ring in (0, 2, 997):
                    for number in (0, 1, GREAT):
                        self.assertEqual(refusal_of(constant, ring, many, number), "NoUnknowns")


class PlusMinusTimes(SumCase):
    def test_11_against_another_reckoning(self):
        for ring, many, sums in self.each_sample():
            for one in sums:
                for other in sums:
                    told = (ring, one, other)
                    self.same_sum(ring, many, plus(ring, one, other), slow_plus(ring, one, other), told)
                    self.same_sum(ring, many, minus(ring, one, other), slow_plus(ring, one, other, -1), told)
                    self.same_sum(ring, many, times(ring, one, other), slow_times(ring, one, other), told)

    def test_11_nought_as_either_one_or_both(self):
        for ring, many, sums in self.each_sample():
            for row in sums:
                self.same_sum(ring, many, plus(ring, row, []), row)
                self.same_sum(ring, many, plus(ring, [], row), row)
                self.same_sum(ring, many, minus(ring, row, []), row)
                self.same_sum(ring, many, plus(ring, minus(ring, [], row), row), [])
                self.same_sum(ring, many, minus(ring, row, row), [])
                self.same_sum(ring, many, times(ring, row, []), [])
                self.same_sum(ring, many, times(ring, [], row), [])
            for action in (plus, minus, times):
                self.same_sum(ring, many, action(ring, [], []), [])

    def test_11_terms_that_fall_out(self):
        x_plus_y = [((1, 0), 1), ((0, 1), 1)]
        x_minus_y = [((1, 0), 1), ((0, 1), -1)]
        self.same_sum(0, 2, plus(0, x_plus_y, x_minus_y), [((1, 0), 2)])
        self.same_sum(0, 2, minus(0, x_plus_y, x_minus_y), [((0, 1), 2)])
        self.same_sum(0, 2, times(0, x_plus_y, x_minus_y), [((2, 0), 1), ((0, 2), -1)])
        self.same_sum(2, 2, times(2, x_plus_y, x_plus_y), [((2, 0), 1), ((0, 2), 1)])
        self.same_sum(2, 2, plus(2, x_plus_y, [((1, 0), 1)]), [((0, 1), 1)])
        self.same_sum(7, 1, plus(7, [((1,), 3), ((0,), 1)], [((1,), 4), ((0,), 1)]), [((0,), 2)])
        self.same_sum(7, 1, minus(7, [((0,), 1)], [((0,), 3)]), [((0,), 5)])

    def test_11_exponents_rise_beyond_99(self):
        for many in (1, 2, 3, 4):
            top = [((99,) * many, 2), ((0,) * many, 1)]
            self.same_sum(0, many, times(0, top, top), [((198,) * many, 4), ((99,) * many, 4), ((0,) * many, 1)])
            again = times(0, times(0, top, top), times(0, top, top))
            self.assertEqual(again[0], ((396,) * many, 16))
            self.same_sum(0, many, plus(0, again, again), scaled(0, again, 2))

    def test_11_numbers_of_any_size(self):
        one = [((1,), GREAT), ((0,), -GREAT)]
        self.same_sum(0, 1, times(0, one, one), [((2,), GREAT ** 2), ((1,), -2 * GREAT ** 2), ((0,), GREAT ** 2)])
        self.same_sum(0, 1, plus(0, one, one), [((1,), 2 * GREAT), ((0,), -2 * GREAT)])

    def test_11_a_sum_with_itself_as_one_list(self):
        row = [((1, 0), 3), ((0, 1), 4)]
        self.same_sum(5, 2, plus(5, row, row), [((1, 0), 1), ((0, 1), 3)])
        self.same_sum(5, 2, minus(5, row, row), [])
        self.same_sum(5, 2, times(5, row, row), [((2, 0), 4), ((1, 1), 4), ((0, 2), 1)])


class Scaled(SumCase):
    def test_11_so_many_times_the_sum(self):
        for ring, many, sums in self.each_sample():
            for row in sums:
                for number in (0, 1, -1, 2, 3, -5, ring, -ring, ring + 1, 3 * ring - 1, GREAT, -GREAT, ring * GREAT):
                    wanted = from_dict(ring, {exponents: own * number for exponents, own in row})
                    self.same_sum(ring, many, scaled(ring, row, number), wanted, (ring, row, number))

    def test_11_nought_and_multiples_of_the_prime(self):
        for number in (0, 7, -7, 7 * GREAT):
            self.same_sum(7, 2, scaled(7, [((1, 2), 3), ((0, 0), 6)], number), [])
        self.same_sum(0, 2, scaled(0, DOC_SUM, 0), [])
        self.same_sum(0, 2, scaled(0, DOC_SUM, -2), [((2, 0), -6), ((0, 1), 2), ((0, 0), -10)])


class Raised(SumCase):
    def test_11_against_repeated_products(self):
        for ring, many, sums in self.each_sample():
            for row in sums:
                if len(row) <= 3:
                    wanted = row
                    for count in range(1, 8):
                        self.same_sum(ring, many, raised(ring, row, count), wanted, (ring, row, count))
                        wanted = slow_times(ring, wanted, row)

    def test_11_nought(self):
        for ring in SAMPLE_RINGS:
            for count in (1, 2, 3, 64, 10 ** 12):
                self.same_sum(ring, 1, raised(ring, [], count), [])

    def test_11_by_the_prime_middle_terms_fall_out(self):
        for prime in (2, 3, 5, 31):
            row = [((1, 0), 1), ((0, 1), 1), ((0, 0), prime - 1)]
            wanted = [((prime, 0), 1), ((0, prime), 1), ((0, 0), (prime - 1) ** prime % prime)]
            self.same_sum(prime, 2, raised(prime, row, prime), wanted)

    def test_11_exponents_rise_beyond_99(self):
        self.same_sum(0, 2, raised(0, [((99, 50), -1)], 5), [((495, 250), -1)])
        self.same_sum(3, 1, raised(3, [((99,), 2)], 101), [((9999,), 2)])
        self.same_sum(0, 1, raised(0, [((1,), 1)], 10 ** 9), [((10 ** 9,), 1)])

    def test_11_the_middle_of_a_long_power(self):
        row = raised(0, [((1,), 1), ((0,), 1)], 100)
        self.assertIsNone(fault_of_sum(0, 1, row))
        self.assertEqual(len(row), 101)
        self.assertEqual(row[50], ((50,), 100891344545564193334812497256))

    def test_11_counts_that_are_less(self):
        for ring in SAMPLE_RINGS:
            for count in (0, -1, -2, -(10 ** 40)):
                for row in ([], [((0,), 1)], [((3, 1), 1), ((0, 0), 1)]):
                    self.assertEqual(refusal_of(raised, ring, row, count), "NoCount", (ring, row, count))

    def test_11_true_and_false_are_no_counts(self):
        for count in (True, False):
            self.assertEqual(refusal_of(raised, 0, [((1,), 1)], count), "NoCount")


class Value(SumCase):
    def test_12_against_another_reckoning(self):
        for ring, many, sums in self.each_sample():
            for row in sums:
                for first in (0, 1, -1, 2, ring, ring + 1, -ring - 2, 10 ** 40 + 3, -(10 ** 40)):
                    point = [first, -1, 3, first + 1][:many]
                    answer = value(ring, row, point)
                    self.assertTrue(is_plain_number(answer))
                    self.assertEqual(answer, slow_value(ring, row, point), (ring, row, point))
                    self.assertTrue(ring == 0 or 0 <= answer < ring)

    def test_12_the_places_are_the_unknowns_own(self):
        self.assertEqual(value(0, DOC_SUM, [2, 10]), 7)
        self.assertEqual(value(0, DOC_SUM, [10, 2]), 303)
        row = [((1, 2, 3, 4), 1)]
        self.assertEqual(value(0, row, [2, 3, 5, 7]), 2 * 9 * 125 * 2401)
        self.assertEqual(value(11, row, [2, 3, 5, 7]), 2 * 9 * 125 * 2401 % 11)

    def test_12_nought_at_any_point(self):
        for ring in SAMPLE_RINGS:
            for point in ([], [0], [5], [GREAT, -GREAT], [1, 2, 3], [0, 0, 0, 0]):
                answer = value(ring, [], point)
                self.assertTrue(is_plain_number(answer))
                self.assertEqual(answer, 0)

    def test_12_at_noughts_the_number_alone_is_left(self):
        for ring, many, sums in self.each_sample():
            for row in sums:
                wanted = dict(row).get((0,) * many, 0)
                self.assertEqual(value(ring, row, [0] * many), wanted)
                self.assertEqual(value(ring, row, [ring] * many), slow_value(ring, row, [ring] * many))

    def test_12_a_number_alone_is_the_same_everywhere(self):
        for point in ([0, 0], [1, -1], [GREAT, 5]):
            self.assertEqual(value(0, [((0, 0), -8)], point), -8)
            self.assertEqual(value(3, [((0, 0), 2)], point), 2)

    def test_12_over_a_prime_it_comes_to_nought_at_a_root(self):
        self.assertEqual(value(5, [((2,), 1), ((0,), 1)], [2]), 0)
        self.assertEqual(value(5, [((2,), 1), ((0,), 1)], [-2]), 0)
        self.assertEqual(value(5, [((2,), 1), ((0,), 1)], [5 * GREAT + 3]), 0)

    def test_12_exponents_beyond_99(self):
        self.assertEqual(value(0, [((300,), 2)], [3]), 2 * 3 ** 300)
        self.assertEqual(value(997, [((10 ** 9,), 1)], [5]), pow(5, 10 ** 9, 997))


class Slope(SumCase):
    def test_13_against_another_reckoning(self):
        for ring, many, sums in self.each_sample():
            for row in sums:
                for unknown in range(many):
                    numbers = {}
                    for exponents, number in row:
                        if exponents[unknown]:
                            less = list(exponents)
                            less[unknown] -= 1
                            numbers[tuple(less)] = number * exponents[unknown]
                    told = (ring, row, unknown)
                    self.same_sum(ring, many, slope(ring, row, unknown), from_dict(ring, numbers), told)

    def test_13_told_examples(self):
        self.same_sum(0, 2, slope(0, DOC_SUM, 0), [((1, 0), 6)])
        self.same_sum(0, 2, slope(0, DOC_SUM, 1), [((0, 0), -1)])
        row = [((1, 2, 3, 4), 5)]
        self.same_sum(0, 4, slope(0, row, 0), [((0, 2, 3, 4), 5)])
        self.same_sum(0, 4, slope(0, row, 1), [((1, 1, 3, 4), 10)])
        self.same_sum(0, 4, slope(0, row, 2), [((1, 2, 2, 4), 15)])
        self.same_sum(0, 4, slope(0, row, 3), [((1, 2, 3, 3), 20)])

    def test_13_terms_that_fall_out(self):
        self.same_sum(0, 1, slope(0, [((0,), GREAT)], 0), [])
        self.same_sum(0, 2, slope(0, [((0, 3), 2), ((0, 0), 1)], 0), [])
        self.same_sum(3, 1, slope(3, [((6,), 1), ((3,), 2), ((2,), 2), ((0,), 1)], 0), [((1,), 1)])
        self.same_sum(2, 2, slope(2, [((4, 1), 1), ((2, 0), 1)], 0), [])
        self.same_sum(97, 1, slope(97, [((97,), 5), ((1,), 96)], 0), [((0,), 96)])

    def test_13_nought(self):
        for ring in SAMPLE_RINGS:
            for unknown in range(4):
                self.same_sum(ring, 1, slope(ring, [], unknown), [])

    def test_13_exponents_beyond_99(self):
        self.same_sum(0, 1, slope(0, [((200,), 3)], 0), [((199,), 600)])

    def test_13_the_slope_of_a_product(self):
        for ring, many, sums in self.each_sample():
            for one, other in zip(sums, sums[1:]):
                for unknown in range(many):
                    wanted = plus(ring, times(ring, slope(ring, one, unknown), other),
                                  times(ring, one, slope(ring, other, unknown)))
                    self.same_sum(ring, many, slope(ring, times(ring, one, other), unknown), wanted)


if __name__ == "__main__":
    unittest.main()
