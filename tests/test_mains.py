"""Promise [25]."""

import unittest

from polyring.mains import main_in, power_in, quotient, rest_in
from things import (drawn_numbers, drawn_sum, fault_of_sum, is_plain_number, refusal_of, sample_sums, slow_plus,
                    slow_raised, slow_times)

GREAT = 1234567890123456789012345678901234567890123
DOC_SUM = [((2, 0), 3), ((0, 1), -1), ((0, 0), 5)]


def told_power(row, unknown):
    return max([exponents[unknown] for exponents, number in row] + [-1])


def told_main(row, unknown):
    power = told_power(row, unknown)
    return [(exponents[:unknown] + (0,) + exponents[unknown + 1:], number) for exponents, number in row
            if exponents[unknown] == power]


class PowerAndMain(unittest.TestCase):
    def test_25_nought(self):
        for unknown in range(4):
            self.assertEqual(power_in([], unknown), -1)
            self.assertEqual(main_in([], unknown), [])

    def test_25_numbers_alone(self):
        for many in (1, 2, 3, 4):
            for number in (1, -1, 6, -GREAT):
                row = [((0,) * many, number)]
                for unknown in range(many):
                    self.assertEqual(power_in(row, unknown), 0)
                    self.assertEqual(main_in(row, unknown), row)

    def test_25_told_examples(self):
        self.assertEqual(power_in(DOC_SUM, 0), 2)
        self.assertEqual(power_in(DOC_SUM, 1), 1)
        self.assertEqual(main_in(DOC_SUM, 0), [((0, 0), 3)])
        self.assertEqual(main_in(DOC_SUM, 1), [((0, 0), -1)])
        row = [((2, 1, 3), 4), ((2, 0, 1), -5), ((1, 2, 3), 6), ((0, 0, 3), 7)]
        self.assertEqual(main_in(row, 0), [((0, 1, 3), 4), ((0, 0, 1), -5)])
        self.assertEqual(main_in(row, 1), [((1, 0, 3), 6)])
        self.assertEqual(main_in(row, 2), [((2, 1, 0), 4), ((1, 2, 0), 6), ((0, 0, 0), 7)])

    def test_25_sample_sums(self):
        for many in (1, 2, 3, 4):
            for row in sample_sums(0, many):
                for unknown in range(many):
                    power = power_in(row, unknown)
                    self.assertTrue(is_plain_number(power))
                    self.assertEqual(power, told_power(row, unknown))
                    main = main_in(row, unknown)
                    self.assertIsNone(fault_of_sum(0, many, main))
                    self.assertEqual(main, told_main(row, unknown))


class RestIn(unittest.TestCase):
    def look_at(self, many, row, by, unknown):
        answer = rest_in(row, by, unknown)
        told = (row, by, unknown, answer)
        self.assertIsInstance(answer, tuple)
        self.assertEqual(len(answer), 3)
        for part in answer:
            self.assertIsNone(fault_of_sum(0, many, part), told)
        c, q, r = answer
        often = told_power(row, unknown) - told_power(by, unknown) + 1
        one = [((0,) * many, 1)]
        self.assertEqual(c, slow_raised(0, told_main(by, unknown), often) if often > 0 else one, told)
        self.assertEqual(slow_times(0, c, row), slow_plus(0, slow_times(0, q, by), r), told)
        self.assertLess(told_power(r, unknown), told_power(by, unknown), told)
        return answer

    def test_25_drawn_sums(self):
        drawn = drawn_numbers(25)
        lower, same, higher = 0, 0, 0
        for many in (1, 2, 3, 4):
            for round_ in range(25):
                row = drawn_sum(drawn, 0, many, 5, 5)
                by = drawn_sum(drawn, 0, many, 4, 3)
                for unknown in range(many):
                    if by:
                        self.look_at(many, row, by, unknown)
                        lower += told_power(row, unknown) < told_power(by, unknown)
                        same += told_power(row, unknown) == told_power(by, unknown)
                        higher += told_power(row, unknown) > told_power(by, unknown)
        self.assertTrue(min(lower, same, higher) > 20)

    def test_25_told_examples(self):
        x, two = [((1,), 1)], [((0,), 2)]
        self.assertEqual(self.look_at(1, [((2,), 1), ((0,), 1)], [((1,), 2), ((0,), 1)], 0),
                         ([((0,), 4)], [((1,), 2), ((0,), -1)], [((0,), 5)]))
        self.assertEqual(self.look_at(1, x, two, 0), ([((0,), 4)], [((1,), 2)], []))
        self.assertEqual(self.look_at(1, two, x, 0), ([((0,), 1)], [], two))

    def test_25_where_terms_fall_out_on_the_way(self):
        by = [((2, 0), 3), ((0, 1), 1)]
        for row in ([((5, 0), 1)], slow_times(0, by, [((3, 0), 1)]), slow_times(0, by, [((3, 0), 2), ((0, 0), 1)]),
                    [((4, 0), 9), ((2, 1), 3), ((0, 0), 1)], [((7, 0), 1), ((1, 1), 1)]):
            self.look_at(2, row, by, 0)
            self.look_at(2, row, by, 1)

    def test_25_of_nought(self):
        for many in (1, 2, 3, 4):
            one = [((0,) * many, 1)]
            for by in (one, [((1,) * many, -2), ((0,) * many, 3)]):
                for unknown in range(many):
                    self.assertEqual(self.look_at(many, [], by, unknown), (one, [], []))

    def test_25_by_sums_without_the_unknown(self):
        for many in (2, 3, 4):
            by = [((0,) * (many - 1) + (1,), 2), ((0,) * many, -3)]
            for row in ([], by, [((0,) * many, 5)], [((2,) * many, 1), ((1,) * many, GREAT)]):
                self.look_at(many, row, by, 0)

    def test_25_great_numbers(self):
        self.look_at(1, [((3,), GREAT), ((0,), -1)], [((1,), -GREAT), ((0,), GREAT + 1)], 0)

    def test_25_by_nought(self):
        for row in ([], DOC_SUM, [((0, 0), 1)]):
            for unknown in (0, 1):
                self.assertEqual(refusal_of(rest_in, row, [], unknown), "ByNought")


class Quotient(unittest.TestCase):
    def test_25_where_there_is_one(self):
        drawn = drawn_numbers(26)
        for many in (1, 2, 3, 4):
            for round_ in range(30):
                one = drawn_sum(drawn, 0, many, 4, 6, 9 if round_ % 3 else GREAT)
                by = drawn_sum(drawn, 0, many, 4, 4)
                if by:
                    answer = quotient(slow_times(0, one, by), by)
                    self.assertIsNone(fault_of_sum(0, many, answer))
                    self.assertEqual(answer, one)

    def test_25_where_there_is_none(self):
        drawn = drawn_numbers(27)
        for many in (1, 2, 3, 4):
            for round_ in range(30):
                one = drawn_sum(drawn, 0, many, 3, 5)
                by = drawn_sum(drawn, 0, many, 3, 4)
                # No term alone has a divisor of two terms or more.
                if len(by) > 1:
                    for more in ([((0,) * many, 1)], [((0,) * (many - 1) + (1,), 1)]):
                        row = slow_plus(0, slow_times(0, one, by), more)
                        self.assertEqual(refusal_of(quotient, row, by), "NotWhole", (row, by))

    def test_25_told_examples(self):
        one = [((0,), 1)]
        x = [((1,), 1)]
        self.assertEqual(quotient([], x), [])
        self.assertEqual(quotient([((2,), 6), ((1,), 4)], [((1,), 2)]), [((1,), 3), ((0,), 2)])
        self.assertEqual(quotient([((2,), 1), ((0,), -1)], [((1,), -1), ((0,), 1)]), [((1,), -1), ((0,), -1)])
        for row, by in ((one, [((0,), 2)]), (one, x), (x, [((1,), 2)]), (x, [((2,), 1)]), (x, [((1,), 1), ((0,), 1)]),
                        ([((2,), 1), ((0,), 1)], [((1,), 1), ((0,), 1)]), ([((0,), 6)], [((0,), 4)])):
            self.assertEqual(refusal_of(quotient, row, by), "NotWhole", (row, by))
        self.assertEqual(quotient([((0,), -6)], [((0,), 3)]), [((0,), -2)])
        self.assertEqual(refusal_of(quotient, [((1, 0), 1)], [((0, 1), 1)]), "NotWhole")
        self.assertEqual(quotient([((99, 98), GREAT)], [((99, 0), -1)]), [((0, 98), -GREAT)])

    def test_25_by_nought_is_refused_first(self):
        for row in ([], DOC_SUM, [((0, 0), 1)]):
            self.assertEqual(refusal_of(quotient, row, []), "ByNought")


if __name__ == "__main__":
    unittest.main()
