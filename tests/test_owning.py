"""Promise [4]: nothing handed in is changed or kept, and each list that is answered is the asker's own."""

import unittest
from copy import deepcopy

from polyring.asked import member, same, without
from polyring.bases import base, differences
from polyring.desk import answers
from polyring.dividing import divided, meet
from polyring.factors import factors, unsplit
from polyring.greatest import common, content
from polyring.mains import main_in, power_in, quotient, rest_in
from polyring.notes import read
from polyring.partsin import no_square_in, parts_in
from polyring.reducing import reduced
from polyring.rows import row_made, row_minus, row_of, row_plus, row_scaled, row_slope, row_times, row_value, sum_of
from polyring.squares import no_square, parts
from polyring.sums import constant, made, minus, plus, raised, scaled, slope, times, value
from things import lists_within

ROW = [((2, 1), 3), ((1, 0), 4), ((0, 0), 1)]
OTHER = [((2, 0), 1), ((0, 1), 2)]
PAIRS = [((0, 1), 2), ((2, 0), 9), ((0, 1), -2), ((1, 1), 3)]

# Arguments behind the ring, which is 0 and 5 in turn.
SUMS = (
    (made, 2, PAIRS),
    (made, 2, []),
    (made, 2, ROW),
    (constant, 3, 4),
    (constant, 3, 0),
    (plus, ROW, OTHER),
    (plus, ROW, []),
    (plus, [], ROW),
    (plus, [], []),
    (minus, ROW, OTHER),
    (minus, ROW, []),
    (minus, [], ROW),
    (minus, ROW, ROW),
    (times, ROW, OTHER),
    (times, ROW, []),
    (times, ROW, [((0, 0), 1)]),
    (times, [((0, 0), 1)], ROW),
    (scaled, ROW, 1),
    (scaled, ROW, 3),
    (scaled, ROW, 0),
    (scaled, [], 1),
    (raised, ROW, 1),
    (raised, ROW, 2),
    (raised, ROW, 5),
    (raised, [], 1),
    (raised, [], 3),
    (slope, ROW, 0),
    (slope, ROW, 1),
    (slope, [], 0),
    (value, ROW, [7, -3]),
    (value, [], [7, -3]),
    (read, 2, "0"),
    (read, 2, "x^2 + 3*y"),
)

ROWS = (
    (row_made, 5, [1, 2, 3]),
    (row_made, 5, [7, 0, -5]),
    (row_made, 5, []),
    (row_plus, 5, [1, 2, 3], [1, 1]),
    (row_plus, 5, [1, 2, 3], []),
    (row_plus, 5, [], [1, 2, 3]),
    (row_plus, 5, [], []),
    (row_minus, 5, [1, 2, 3], [1, 1]),
    (row_minus, 5, [1, 2, 3], []),
    (row_minus, 5, [1, 2, 3], [1, 2, 3]),
    (row_times, 5, [1, 2, 3], [1]),
    (row_times, 5, [1], [1, 2, 3]),
    (row_times, 5, [1, 2, 3], [2, 4]),
    (row_times, 5, [1, 2, 3], []),
    (row_times, 5, [], [1, 2, 3]),
    (row_scaled, 5, [1, 2, 3], 1),
    (row_scaled, 5, [1, 2, 3], 0),
    (row_scaled, 5, [], 1),
    (row_slope, 5, [1, 2, 3]),
    (row_slope, 5, [4]),
    (row_slope, 5, []),
    (row_value, 5, [1, 2, 3], 4),
    (row_of, [((2,), 3), ((0,), 1)]),
    (row_of, [((0,), 1)]),
    (row_of, []),
    (sum_of, [1, 0, 3]),
    (sum_of, []),
)

DIVIDED = (
    (divided, 5, [1, 2, 3], [1, 1]),
    (divided, 5, [1, 2, 3], [1]),
    (divided, 5, [1, 2], [1, 1, 1]),
    (divided, 5, [], [1, 1]),
    (divided, 5, [1, 1], [1, 1]),
    (meet, 5, [4, 0, 1], [1, 1]),
    (meet, 5, [4, 0, 1], []),
    (meet, 5, [], [4, 0, 1]),
    (meet, 5, [1], [1]),
    (meet, 5, [1, 1], [1, 1]),
    (meet, 5, [2], [1, 2, 1]),
    (no_square, 5, [4, 0, 1]),
    (no_square, 5, [1]),
    (no_square, 5, [3]),
    (no_square, 5, [1, 1]),
    (no_square, 5, [1, 2, 1]),
    (no_square, 5, []),
    (parts, 5, [1]),
    (parts, 5, [1, 1]),
    (parts, 5, [3, 3]),
    (parts, 5, [1, 2, 1]),
    (parts, 5, [1, 0, 0, 0, 0, 1]),
    (parts, 5, [0, 0, 1, 1]),
    (factors, 5, [1]),
    (factors, 5, [1, 1]),
    (factors, 5, [4, 0, 1]),
    (factors, 5, [0, 0, 1, 1]),
    (factors, 5, [2, 0, 1]),
    (unsplit, 5, [1, 1]),
    (unsplit, 5, [2, 0, 1]),
    (unsplit, 5, [4, 0, 1]),
    (unsplit, 2, [1, 1, 0, 1]),
    (unsplit, 2, [1, 1, 0, 0, 1]),
)

X = [((1, 0), 1)]
ONE = [((0, 0), 1)]
SQUARE = [((2, 0), 2), ((1, 1), 4), ((0, 2), 2)]
LINE = [((1, 0), -1), ((0, 1), -1)]
CIRCLE = [((2, 0), 1), ((0, 2), 1), ((0, 0), -1)]

OVER_NOUGHT = (
    (content, SQUARE),
    (power_in, SQUARE, 0),
    (main_in, SQUARE, 0),
    (main_in, ONE, 0),
    (main_in, [], 1),
    (rest_in, SQUARE, LINE, 0),
    (rest_in, LINE, SQUARE, 0),
    (rest_in, SQUARE, ONE, 1),
    (rest_in, [], LINE, 0),
    (quotient, SQUARE, LINE),
    (quotient, SQUARE, ONE),
    (quotient, SQUARE, SQUARE),
    (quotient, [], LINE),
    (common, SQUARE, LINE),
    (common, LINE, SQUARE),
    (common, SQUARE, SQUARE),
    (common, SQUARE, []),
    (common, [], LINE),
    (common, ONE, ONE),
    (common, ONE, X),
    (common, X, X),
    (common, CIRCLE, LINE),
    (common, CIRCLE, SQUARE),
    (no_square_in, LINE),
    (no_square_in, ONE),
    (no_square_in, X),
    (no_square_in, CIRCLE),
    (no_square_in, SQUARE),
    (parts_in, ONE),
    (parts_in, X),
    (parts_in, LINE),
    (parts_in, SQUARE),
    (parts_in, CIRCLE),
)

A = [((2, 0), 1), ((0, 1), 1)]
B = [((1, 1), 1), ((0, 0), 6)]
C = [((0, 2), 3), ((0, 0), 1)]
GIVENS = ([A, B], [A], [[]], [[], A], [A, A], [B, [], A, C], [ONE], [ONE, A], [[], []], [C])

OVER_PRIMES = tuple((reduced, 7, order, row, by) for order in ("lex", "deg")
                    for row in (A, B, [], ONE) for by in ([], [A], [A, B], [A, A], [ONE, C]))
OVER_PRIMES += tuple((base, 7, order, given) for order in ("lex", "deg") for given in GIVENS)
OVER_PRIMES += tuple((differences, 7, order, rows) for order in ("lex", "deg")
                     for rows in ([], [A], [A, B], [A, A], [A, C], [X, C, ONE], [ONE, ONE]))
OVER_PRIMES += tuple((member, 7, order, given, row) for order in ("lex", "deg")
                     for given in GIVENS for row in (A, [], ONE, X))
OVER_PRIMES += tuple((same, 7, given, others) for given in GIVENS for others in GIVENS)
OVER_PRIMES += tuple((without, 7, given, count) for given in GIVENS for count in (0, 1))
OVER_PRIMES += ((answers, ""), (answers, "ring 7 2\nlet A x\nshow A"))

CASES = tuple((case[0], ring) + case[1:] for case in SUMS for ring in (0, 5)) + ROWS + DIVIDED + OVER_NOUGHT + OVER_PRIMES


def change_all(lists):
    """Changes each list, those within another one ahead of it, so that all that stands in it is gone."""
    for one in reversed(lists):
        one.append("more")
        one.insert(0, "less")
        del one[1:-1]


class Owning(unittest.TestCase):
    def each_case(self):
        for case in CASES:
            yield case[0], deepcopy(list(case[1:]))

    def test_4_what_is_handed_in_stays_as_it_was(self):
        for action, arguments in self.each_case():
            before = deepcopy(arguments)
            action(*arguments)
            self.assertEqual(arguments, before, action.__name__)

    def test_4_each_list_of_the_answer_is_a_new_one(self):
        for action, arguments in self.each_case():
            first = lists_within(action(*arguments))
            second = lists_within(action(*arguments))
            everyone = first + second + lists_within(arguments)
            self.assertEqual(len(set(map(id, first + second))), len(first) + len(second), action.__name__)
            handed = len(set(map(id, lists_within(arguments))))
            self.assertEqual(len(set(map(id, everyone))), len(first) + len(second) + handed, action.__name__)

    def test_4_a_changed_answer_changes_nothing_else(self):
        for action, arguments in self.each_case():
            before = deepcopy(arguments)
            earlier = action(*arguments)
            wanted = deepcopy(earlier)
            changed = action(*arguments)
            change_all(lists_within(changed))
            self.assertEqual(arguments, before, action.__name__)
            self.assertEqual(earlier, wanted, action.__name__)
            later = action(*arguments)
            self.assertEqual(later, wanted, action.__name__)
            change_all(lists_within(earlier))
            self.assertEqual(later, wanted, action.__name__)
            self.assertEqual(action(*arguments), wanted)
            self.assertEqual(arguments, before, action.__name__)

    def test_4_what_was_handed_in_may_be_changed_afterwards(self):
        for action, arguments in self.each_case():
            fresh = deepcopy(arguments)
            answer = action(*arguments)
            wanted = deepcopy(answer)
            change_all(lists_within(arguments)[1:])
            self.assertEqual(answer, wanted, action.__name__)
            self.assertEqual(action(*fresh), wanted, action.__name__)

    def test_4_one_list_in_both_places(self):
        for ring in (0, 5):
            for action in (plus, minus, times):
                row = deepcopy(ROW)
                wanted = action(ring, row, deepcopy(ROW))
                answer = action(ring, row, row)
                self.assertEqual(answer, wanted)
                self.assertEqual(row, ROW)
                answer.clear()
                self.assertEqual(row, ROW)

    def test_4_refused_things_stay_as_they_were(self):
        pairs = [((1, 1), 2), [(0, 0), 3], ((0, 1), 1)]
        before = deepcopy(pairs)
        for ring in (0, 4, 5):
            with self.assertRaises(ValueError):
                made(ring, 2, pairs)
            self.assertEqual(pairs, before)


if __name__ == "__main__":
    unittest.main()
