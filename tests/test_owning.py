"""Promise [4]: nothing handed in is changed or kept, and each list that is answered is the asker's own."""

import unittest
from copy import deepcopy

from polyring.sums import constant, made, minus, plus, raised, scaled, slope, times, value

ROW = [((2, 1), 3), ((1, 0), 4), ((0, 0), 1)]
OTHER = [((2, 0), 1), ((0, 1), 2)]
PAIRS = [((0, 1), 2), ((2, 0), 9), ((0, 1), -2), ((1, 1), 3)]

# Each one answers a list; arguments behind the ring.
CASES = (
    (made, 2, PAIRS),
    (made, 2, []),
    (made, 2, ROW),
    (constant, 3, 4),
    (constant, 3, 0),
    (plus, ROW, OTHER),
    (plus, ROW, []),
    (plus, [], ROW),
    (plus, [], []),
    (minus, ROW, OTHER),
    (minus, ROW, []),
    (minus, [], ROW),
    (minus, ROW, ROW),
    (times, ROW, OTHER),
    (times, ROW, []),
    (times, ROW, [((0, 0), 1)]),
    (times, [((0, 0), 1)], ROW),
    (scaled, ROW, 1),
    (scaled, ROW, 3),
    (scaled, ROW, 0),
    (scaled, [], 1),
    (raised, ROW, 1),
    (raised, ROW, 2),
    (raised, ROW, 5),
    (raised, [], 1),
    (raised, [], 3),
    (slope, ROW, 0),
    (slope, ROW, 1),
    (slope, [], 0),
)


class Owning(unittest.TestCase):
    def each_case(self):
        for ring in (0, 5):
            for case in CASES:
                yield case[0], [ring] + deepcopy(list(case[1:]))

    def test_4_what_is_handed_in_stays_as_it_was(self):
        for action, arguments in self.each_case():
            before = deepcopy(arguments)
            action(*arguments)
            self.assertEqual(arguments, before)

    def test_4_the_answer_is_none_of_the_lists_handed_in(self):
        for action, arguments in self.each_case():
            answer = action(*arguments)
            self.assertFalse(any(answer is argument for argument in arguments))

    def test_4_a_changed_answer_changes_nothing_else(self):
        for action, arguments in self.each_case():
            before = deepcopy(arguments)
            earlier = action(*arguments)
            changed = action(*arguments)
            self.assertIsNot(earlier, changed)
            wanted = list(earlier)
            changed.append("more")
            changed.insert(0, "less")
            self.assertEqual(arguments, before)
            self.assertEqual(earlier, wanted)
            later = action(*arguments)
            self.assertEqual(later, wanted)
            changed.clear()
            self.assertEqual(later, wanted)
            self.assertEqual(action(*arguments), wanted)

    def test_4_what_was_handed_in_may_be_changed_afterwards(self):
        for action, arguments in self.each_case():
            answer = action(*arguments)
            wanted = list(answer)
            fresh = deepcopy(arguments)
            for argument in arguments:
                if isinstance(argument, list):
                    argument.append(((9, 9), 9))
                    argument.reverse()
            self.assertEqual(answer, wanted)
            self.assertEqual(action(*fresh), wanted)

    def test_4_one_list_in_both_places(self):
        for ring in (0, 5):
            for action in (plus, minus, times):
                row = deepcopy(ROW)
                wanted = action(ring, row, deepcopy(ROW))
                answer = action(ring, row, row)
                self.assertEqual(answer, wanted)
                self.assertEqual(row, ROW)
                answer.clear()
                self.assertEqual(row, ROW)

    def test_4_value_changes_neither_sum_nor_point(self):
        for ring in (0, 5):
            row, point = deepcopy(ROW), [7, -3]
            first = value(ring, row, point)
            self.assertEqual((row, point), (ROW, [7, -3]))
            row.clear()
            point[0] = 0
            self.assertEqual(value(ring, deepcopy(ROW), [7, -3]), first)

    def test_4_refused_things_stay_as_they_were(self):
        pairs = [((1, 1), 2), [(0, 0), 3], ((0, 1), 1)]
        before = deepcopy(pairs)
        for ring in (0, 4, 5):
            with self.assertRaises(ValueError):
                made(ring, 2, pairs)
            self.assertEqual(pairs, before)


if __name__ == "__main__":
    unittest.main()
