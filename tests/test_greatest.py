"""Promises [24] and [26]."""

import unittest
from itertools import permutations
from math import gcd

from polyring.greatest import common, content
from things import (drawn_numbers, drawn_sum, fault_of_papers, fault_of_sum, from_dict, is_plain_number, refusal_of,
                    sample_sums, slow_content, slow_plus, slow_times)

GREAT = 1234567890123456789012345678901234567890123


class Content(unittest.TestCase):
    def test_24_sample_sums(self):
        for many in (1, 2, 3, 4):
            for row in sample_sums(0, many):
                for factor in (1, -1, 6, -35, GREAT):
                    multiple = from_dict(0, {exponents: number * factor for exponents, number in row})
                    answer = content(multiple)
                    self.assertTrue(is_plain_number(answer))
                    self.assertEqual(answer, slow_content(multiple))

    def test_24_told_examples(self):
        self.assertEqual(content([]), 0)
        self.assertEqual(content([((0,), 6)]), 6)
        self.assertEqual(content([((0,), -6)]), 6)
        self.assertEqual(content([((2, 0), 6), ((0, 1), -4), ((0, 0), 10)]), 2)
        self.assertEqual(content([((1,), -1), ((0,), 5)]), 1)
        self.assertEqual(content([((3,), 6), ((1,), 10), ((0,), 15)]), 1)
        self.assertEqual(content([((1, 1, 1, 1), -GREAT), ((0, 0, 0, 0), 3 * GREAT)]), GREAT)


class Common(unittest.TestCase):
    def look_at(self, many, ones, others):
        answer = common(ones, others)
        told = (ones, others)
        self.assertIsInstance(answer, tuple, told)
        self.assertEqual(len(answer), 4, told)
        g, s, t, papers = answer
        for part in (g, s, t):
            self.assertIsNone(fault_of_sum(0, many, part), told)
        self.assertGreater(g[0][1], 0, told)
        self.assertEqual(slow_times(0, g, s), ones, told)
        self.assertEqual(slow_times(0, g, t), others, told)
        self.assertEqual(gcd(slow_content(s), slow_content(t)), 1, told)
        self.assertIsNone(fault_of_papers(many, s, [t] * many, papers), told)
        return g

    def look_at_both(self, many, ones, others):
        g = self.look_at(many, ones, others)
        self.assertEqual(self.look_at(many, others, ones), g)
        return g

    def test_26_numbers_alone(self):
        for many in (1, 2, 3, 4):
            for one in (1, -1, 6, -10, 35 * GREAT):
                for other in (1, -1, 4, -15, -21 * GREAT):
                    places = (0,) * many
                    g = self.look_at_both(many, [(places, one)], [(places, other)])
                    self.assertEqual(g, [(places, gcd(one, other))])

    def test_26_one_nought(self):
        drawn = drawn_numbers(26)
        for many in (1, 2, 3, 4):
            for round_ in range(8):
                row = drawn_sum(drawn, 0, many, 6, 6, 99)
                if row:
                    upright = row if row[0][1] > 0 else [(exponents, -number) for exponents, number in row]
                    self.assertEqual(self.look_at_both(many, row, []), upright)

    def test_26_two_noughts(self):
        self.assertEqual(refusal_of(common, [], []), "NoMeet")

    def test_26_terms_alone(self):
        for many in (1, 2, 3, 4):
            for one_high, other_high in ((99, 99), (99, 0), (50, 99), (3, 2)):
                one = [((one_high,) + (1,) * (many - 1), 6)]
                other = [((other_high,) + (2,) * (many - 1), -15)]
                wanted = [((min(one_high, other_high),) + (1,) * (many - 1), 3)]
                self.assertEqual(self.look_at_both(many, one, other), wanted)
                self.assertEqual(self.look_at_both(many, one, []), one)
                self.assertEqual(self.look_at_both(many, [], other), [(other[0][0], 15)])
        self.assertEqual(self.look_at_both(4, [((99, 0, 98, 1), 4)], [((0, 99, 97, 99), 6)]), [((0, 0, 97, 1), 2)])

    def test_26_a_term_and_a_sum(self):
        self.assertEqual(self.look_at_both(2, [((2, 3), 4)], [((2, 1), 6), ((1, 2), 10)]), [((1, 1), 2)])
        self.assertEqual(self.look_at_both(2, [((2, 3), 4)], [((2, 1), 6), ((0, 0), 9)]), [((0, 0), 1)])
        self.assertEqual(self.look_at_both(1, [((5,), 1)], [((7,), 1), ((4,), -1)]), [((4,), 1)])

    def test_26_told_examples(self):
        one = [((2, 0), 1), ((0, 2), -1)]
        other = [((2, 0), 1), ((1, 1), 2), ((0, 2), 1)]
        self.assertEqual(self.look_at_both(2, one, other), [((1, 0), 1), ((0, 1), 1)])
        self.assertEqual(self.look_at_both(1, [((2,), -6), ((0,), 6)], [((1,), 4), ((0,), -4)]), [((1,), 2), ((0,), -2)])
        self.assertEqual(self.look_at_both(1, [((1,), 2)], [((1,), 2), ((0,), 1)]), [((0,), 1)])
        self.assertEqual(self.look_at_both(1, [((1,), 2), ((0,), 2)], [((1,), 3), ((0,), 3)]), [((1,), 1), ((0,), 1)])

    def test_26_the_same_and_less_it(self):
        drawn = drawn_numbers(261)
        for many in (1, 2, 3, 4):
            row = drawn_sum(drawn, 0, many, 5, 6)
            below = [(exponents, -number) for exponents, number in row]
            upright = row if row[0][1] > 0 else below
            for pair in ((row, row), (row, below), (below, row), (below, below)):
                self.assertEqual(self.look_at(many, *pair), upright)

    def test_26_sums_with_a_common_part(self):
        drawn = drawn_numbers(262)
        for many, degree, rounds in ((1, 5, 30), (2, 4, 20), (3, 3, 12), (4, 3, 8)):
            for round_ in range(rounds):
                part, one, other = [drawn_sum(drawn, 0, many, degree, 1 + round_ % 5) for k in range(3)]
                ones, others = slow_times(0, part, one), slow_times(0, part, other)
                g = self.look_at_both(many, ones, others)
                # What divides both divides g.
                self.assertEqual(self.look_at(many, g, part), part if part[0][1] > 0 else
                                 [(exponents, -number) for exponents, number in part])

    def test_26_with_common_contents(self):
        drawn = drawn_numbers(263)
        for many in (1, 2, 3, 4):
            for one_factor, other_factor in ((6, 4), (-6, 9), (1, -5), (GREAT, -GREAT), (10 ** 30, 10 ** 20 * 7)):
                part, one, other = [drawn_sum(drawn, 0, many, 2, 3) for k in range(3)]
                ones = slow_times(0, [((0,) * many, one_factor)], slow_times(0, part, one))
                others = slow_times(0, [((0,) * many, other_factor)], slow_times(0, part, other))
                g = self.look_at_both(many, ones, others)
                self.assertEqual(slow_content(g), gcd(slow_content(ones), slow_content(others)))

    def test_26_parts_that_lack_unknowns(self):
        x, y, z, w = [[(tuple(int(k == place) for k in range(4)), 1), ((0,) * 4, 1)] for place in range(4)]
        for order in permutations((x, y, z, w)):
            part = slow_times(0, order[0], order[1])
            ones, others = slow_times(0, part, order[2]), slow_times(0, part, order[3])
            self.assertEqual(self.look_at(4, ones, others), part)
        self.assertEqual(self.look_at_both(4, slow_times(0, x, x), slow_times(0, x, y)), x)
        self.assertEqual(self.look_at_both(4, x, w), [((0,) * 4, 1)])

    def test_26_great_numbers(self):
        drawn = drawn_numbers(264)
        for many, degree in ((1, 4), (2, 3), (3, 2), (4, 2)):
            part, one, other = [drawn_sum(drawn, 0, many, degree, 3, GREAT) for k in range(3)]
            self.look_at_both(many, slow_times(0, part, one), slow_times(0, part, other))

    def test_26_without_a_common_part_at_the_told_sizes(self):
        drawn = drawn_numbers(265)
        for many, degree, terms in ((1, 12, 13), (2, 8, 40), (3, 6, 15), (4, 4, 12), (4, 8, 5)):
            for round_ in range(2):
                self.look_at(many, drawn_sum(drawn, 0, many, degree, terms), drawn_sum(drawn, 0, many, degree, terms))

    def test_26_with_a_common_part_at_the_told_sizes(self):
        drawn = drawn_numbers(266)
        for many, degree, terms in ((1, 6, 7), (2, 4, 8), (3, 3, 6), (4, 4, 6)):
            for round_ in range(3):
                part, one, other = [drawn_sum(drawn, 0, many, degree, terms) for k in range(3)]
                self.look_at(many, slow_times(0, part, one), slow_times(0, part, other))

    def test_26_lines_of_each_distance(self):
        """Sums that have no common part, but come to numbers with a common divisor here and there."""
        for one in (-2, -1, 0, 1, 5):
            for other in range(-70, 71):
                first, second = [((1,), 1), ((0,), one)], [((1,), 1), ((0,), other)]
                wanted = first if one == other else [((0,), 1)]
                self.assertEqual(self.look_at(1, [term for term in first if term[1]],
                                              [term for term in second if term[1]]),
                                 [term for term in wanted if term[1]])

    def test_26_mains_and_resultants_that_come_to_nought_at_whole_numbers(self):
        drawn = drawn_numbers(267)
        parts = [drawn_sum(drawn, 0, 2, 4, 9) for k in range(4)]
        for number in list(range(-3, 16)) + list(range(98, 116)):
            line = [((0, 1), 1), ((0, 0), -number)]
            high = slow_times(0, line, [((5, 0), 2), ((4, 1), 1)])
            self.look_at(2, slow_plus(0, high, parts[0]), slow_plus(0, high, parts[1]))
            self.look_at_both(2, slow_plus(0, high, parts[0]), slow_plus(0, [((5, 0), 3)], parts[1]))
            root = [((1, 0), 1), ((0, 0), -number)]
            both = [slow_plus(0, slow_times(0, line, parts[k]), slow_times(0, root, parts[k + 2])) for k in (0, 1)]
            self.look_at(2, *both)

    def test_26_rests_that_have_lower_powers_at_whole_numbers(self):
        factor = [((1, 0), 2), ((0, 2), 1), ((0, 0), -7)]
        low = [((1, 0), 3), ((0, 1), 1), ((0, 0), 2)]
        for number in list(range(9, 16)) + list(range(101, 110)):
            line = [((0, 1), 1), ((0, 0), -number)]
            for power in (3, 4, 5):
                by = [((power, 0), 1), ((2, 1), -3), ((1, 2), 2), ((0, 1), 5), ((0, 0), 1)]
                rest = slow_plus(0, slow_times(0, line, [((power - 1, 0), 1), ((2, 0), 2)]), low)
                row = slow_plus(0, slow_times(0, factor, by), rest)
                self.look_at_both(2, row, by)
                about = [from_dict(0, {exponents[::-1]: own for exponents, own in one}) for one in (row, by)]
                self.look_at_both(2, *about)

    def test_26_few_terms_of_high_degrees(self):
        one = [((8, 0, 0, 0), 1), ((0, 8, 0, 0), 1), ((0, 0, 8, 0), 1), ((0, 0, 0, 8), 1)]
        other = [((7, 1, 0, 0), 1), ((0, 0, 4, 4), 1), ((0, 0, 0, 0), 1)]
        self.assertEqual(self.look_at_both(4, one, other), [((0, 0, 0, 0), 1)])
        third = [((4, 0, 4, 0), 3), ((0, 3, 1, 4), -2)]
        self.assertEqual(self.look_at_both(4, one, third), [((0, 0, 0, 0), 1)])
        self.assertEqual(self.look_at_both(4, other, third), [((0, 0, 0, 0), 1)])

    def test_26_sums_that_come_to_nought_at_many_places(self):
        """Products of differences of unknowns and numbers: such sums are nought at all small places."""
        def line(place, number):
            return [((int(place == 0), int(place == 1)), 1), ((0, 0), -number)]
        ones, others = [((0, 0), 1)], [((0, 0), 1)]
        for number in range(4):
            ones = slow_times(0, ones, line(0, number))
            others = slow_times(0, others, line(1, number))
        mixed = slow_times(0, [((1, 0), 1), ((0, 1), -1)], [((1, 0), 1), ((0, 1), 1), ((0, 0), -113)])
        self.assertEqual(self.look_at_both(2, ones, others), [((0, 0), 1)])
        self.assertEqual(self.look_at_both(2, slow_times(0, ones, mixed), slow_times(0, others, mixed)), mixed)
        self.assertEqual(self.look_at_both(2, ones, mixed), [((0, 0), 1)])


if __name__ == "__main__":
    unittest.main()
