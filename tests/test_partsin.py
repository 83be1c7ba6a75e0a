"""Promises [27] and [28]."""

import unittest
from itertools import combinations, permutations

from polyring.greatest import common
from polyring.partsin import no_square_in, parts_in
from things import (drawn_numbers, drawn_sum, fault_of_papers, fault_of_sum, from_dict, is_plain_number, refusal_of,
                    slow_content, slow_raised, slow_slope, slow_times)

GREAT = 1234567890123456789012345678901234567890123


def number_alone(many, number):
    return [((0,) * many, number)]


def has_unknown(row):
    return any(any(exponents) for exponents, number in row)


def unit(many, place):
    return tuple(int(k == place) for k in range(many))


class SquareCase(unittest.TestCase):
    def look_at_papers(self, many, row):
        papers = no_square_in(row)
        self.assertIsNotNone(papers, row)
        self.assertIsNone(fault_of_papers(many, row, [slow_slope(0, row, unknown) for unknown in range(many)], papers))


class NoSquareIn(SquareCase):
    def test_27_numbers_alone(self):
        for many in (1, 2, 3, 4):
            for number in (1, -1, 4, -9, 36 * GREAT):
                self.look_at_papers(many, number_alone(many, number))

    def test_27_nought(self):
        self.assertEqual(refusal_of(no_square_in, []), "NoParts")

    def test_27_terms_alone(self):
        for many in (1, 2, 3, 4):
            for place in range(many):
                for number in (1, -4):
                    self.look_at_papers(many, [(unit(many, place), number)])
                    for exponent in (2, 3, 99):
                        row = [(tuple(exponent * k for k in unit(many, place)), number)]
                        self.assertIsNone(no_square_in(row), row)
            self.look_at_papers(many, [((1,) * many, 12)])
            self.assertIsNone(no_square_in([((99,) * many, 12)]))

    def test_27_told_examples(self):
        self.look_at_papers(1, [((2,), 1), ((0,), 1)])
        self.look_at_papers(1, [((2,), 4), ((0,), -4)])
        self.assertIsNone(no_square_in([((2,), 1), ((1,), 2), ((0,), 1)]))
        self.assertIsNone(no_square_in([((2,), -4), ((1,), 4), ((0,), -1)]))
        self.look_at_papers(2, [((2, 0), 1), ((0, 2), -1)])
        self.assertIsNone(no_square_in([((2, 0), 1), ((1, 1), 2), ((0, 2), 1)]))
        self.assertIsNone(no_square_in([((1, 2), 1), ((0, 2), 1)]))
        self.look_at_papers(2, [((1, 1), 4), ((0, 1), 4)])

    def test_27_a_square_in_each_unknown_alone(self):
        for many in (2, 3, 4):
            for place in range(many):
                square = slow_raised(0, [(unit(many, place), 1), ((0,) * many, 1)], 2)
                for other in range(many):
                    if other != place:
                        factor = [(unit(many, other), 1), ((0,) * many, -3)]
                        self.assertIsNone(no_square_in(slow_times(0, square, factor)), (many, place, other))
                        self.assertIsNone(no_square_in(slow_times(0, square, number_alone(many, 5))))

    def test_27_drawn_sums_once_and_twice(self):
        drawn = drawn_numbers(27)
        for many, degree, rounds in ((1, 6, 20), (2, 4, 12), (3, 3, 8), (4, 2, 6)):
            for round_ in range(rounds):
                row = drawn_sum(drawn, 0, many, degree, 4)
                square = slow_raised(0, drawn_sum(drawn, 0, many, 2, 3), 2)
                if no_square_in(row) is not None:
                    self.look_at_papers(many, row)
                if has_unknown(square):
                    self.assertIsNone(no_square_in(square))
                    self.assertIsNone(no_square_in(slow_times(0, row, square)), (row, square))

    def test_27_products_of_different_sums(self):
        for many in (1, 2, 3, 4):
            lines = [[(unit(many, place), 1), ((0,) * many, place + 2)] for place in range(many)]
            lines.append([(unit(many, many - 1), 3), ((0,) * many, -1)])
            row = number_alone(many, -6)
            for line in lines:
                row = slow_times(0, row, line)
            self.look_at_papers(many, row)
            for line in lines:
                self.assertIsNone(no_square_in(slow_times(0, row, line)))

    def test_27_at_the_told_sizes(self):
        drawn = drawn_numbers(271)
        for many, degree, terms in ((1, 12, 12), (2, 8, 12), (3, 6, 6), (4, 4, 6)):
            row = drawn_sum(drawn, 0, many, degree, terms)
            while no_square_in(row) is None:
                row = drawn_sum(drawn, 0, many, degree, terms)
            self.look_at_papers(many, row)


class PartsIn(SquareCase):
    def look_at(self, many, row):
        answer = parts_in(row)
        self.assertIsInstance(answer, tuple)
        self.assertEqual(len(answer), 2)
        number, rows = answer
        self.assertTrue(is_plain_number(number), row)
        self.assertEqual(number, slow_content(row) if row[0][1] > 0 else -slow_content(row), row)
        self.assertIsInstance(rows, list)
        product = number_alone(many, number)
        for entry in rows:
            self.assertIsInstance(entry, tuple)
            part, many_times = entry
            self.assertIsNone(fault_of_sum(0, many, part), row)
            self.assertTrue(is_plain_number(many_times) and many_times >= 1, row)
            self.assertGreater(part[0][1], 0, row)
            self.assertEqual(slow_content(part), 1, row)
            self.assertTrue(has_unknown(part), row)
            self.look_at_papers(many, part)
            product = slow_times(0, product, slow_raised(0, part, many_times))
        self.assertEqual(product, row)
        self.assertTrue(all(one[1] < other[1] for one, other in zip(rows, rows[1:])), row)
        for one, other in combinations(rows, 2):
            g, s, t, papers = common(one[0], other[0])
            self.assertIsNone(fault_of_papers(many, one[0], [other[0]] * many, papers), row)
            self.assertEqual((g, s, t), (number_alone(many, 1), one[0], other[0]))
        return answer

    def test_28_numbers_alone(self):
        for many in (1, 2, 3, 4):
            for number in (1, -1, 12, -12, GREAT, -GREAT):
                self.assertEqual(self.look_at(many, number_alone(many, number)), (number, []))

    def test_28_nought(self):
        self.assertEqual(refusal_of(parts_in, []), "NoParts")

    def test_28_terms_alone(self):
        self.assertEqual(self.look_at(1, [((99,), -7)]), (-7, [([((1,), 1)], 99)]))
        self.assertEqual(self.look_at(3, [((2, 0, 2), 6)]), (6, [([((1, 0, 1), 1)], 2)]))
        self.assertEqual(self.look_at(4, [((5, 1, 0, 3), 1)]),
                         (1, [([((0, 1, 0, 0), 1)], 1), ([((0, 0, 0, 1), 1)], 3), ([((1, 0, 0, 0), 1)], 5)]))
        answer = parts_in([((99, 98, 99, 1), -2)])
        self.assertEqual(answer, (-2, [([((0, 0, 0, 1), 1)], 1), ([((0, 1, 0, 0), 1)], 98), ([((1, 0, 1, 0), 1)], 99)]))

    def test_28_told_examples(self):
        self.assertEqual(self.look_at(1, [((2,), -6), ((0,), 6)]), (-6, [([((2,), 1), ((0,), -1)], 1)]))
        self.assertEqual(self.look_at(2, [((2, 1), 4), ((1, 1), 8), ((0, 1), 4)]),
                         (4, [([((0, 1), 1)], 1), ([((1, 0), 1), ((0, 0), 1)], 2)]))
        self.assertEqual(self.look_at(1, [((3,), 1), ((2,), -2), ((1,), 1)]),
                         (1, [([((1,), 1)], 1), ([((1,), 1), ((0,), -1)], 2)]))
        self.assertEqual(self.look_at(2, [((2, 2), 1), ((2, 1), 2), ((2, 0), 1)]),
                         (1, [([((1, 1), 1), ((1, 0), 1)], 2)]))

    def test_28_each_line_so_often(self):
        for many in (1, 2, 3, 4):
            lines = [[(unit(many, place), 2), ((0,) * many, place + 1)] for place in range(many)]
            lines.append([(unit(many, 0), 1)])
            for often in ((1, 2, 3, 1, 1), (2, 2, 1, 1, 2), (3, 1, 1, 2, 3), (1, 1, 1, 1, 1)):
                row = number_alone(many, -10)
                wanted = {}
                for line, count in zip(lines, often):
                    line = from_dict(0, {exponents: number // slow_content(line) for exponents, number in line})
                    row = slow_times(0, row, slow_raised(0, line, count))
                    wanted[count] = slow_times(0, wanted.get(count, number_alone(many, 1)), line)
                number, rows = self.look_at(many, row)
                self.assertEqual(rows, [(wanted[count], count) for count in sorted(wanted)])

    def test_28_drawn_products(self):
        drawn = drawn_numbers(28)
        for many, degree, rounds in ((1, 3, 20), (2, 2, 12), (3, 2, 6), (4, 1, 6)):
            for round_ in range(rounds):
                row = number_alone(many, (-1) ** round_ * (1 + round_ % 4))
                for count in (1, 2, 3)[:1 + round_ % 3]:
                    row = slow_times(0, row, slow_raised(0, drawn_sum(drawn, 0, many, degree, 3), count))
                self.look_at(many, row)

    def test_28_parts_that_lack_an_unknown(self):
        x, y, z = [[(unit(3, place), 1), ((0, 0, 0), 1)] for place in range(3)]
        for one, other, third in permutations((x, y, z)):
            row = slow_times(0, slow_raised(0, one, 3), slow_times(0, slow_raised(0, other, 2), third))
            self.assertEqual(self.look_at(3, row), (1, [(third, 1), (other, 2), (one, 3)]))
            row = slow_times(0, slow_raised(0, one, 2), slow_times(0, slow_raised(0, other, 2), third))
            self.assertEqual(self.look_at(3, row), (1, [(third, 1), (slow_times(0, one, other), 2)]))

    def test_28_great_numbers(self):
        for many in (1, 2, 3, 4):
            line = [(unit(many, 0), GREAT), ((0,) * many, GREAT + 1)]
            other = [(unit(many, many - 1), 2), ((0,) * many, -GREAT)]
            row = slow_times(0, number_alone(many, -GREAT), slow_times(0, slow_raised(0, line, 3), other))
            number, rows = self.look_at(many, row)
            self.assertEqual((number, rows), (-GREAT, [(other, 1), (line, 3)]))


if __name__ == "__main__":
    unittest.main()
