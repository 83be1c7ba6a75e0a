"""The interface: every name with its arguments, in the order in which the points tell them."""

import inspect
import unittest
from importlib import import_module

INTERFACE = {
    "numbers": ("is_ring(thing)", "settled(ring, number)", "inverse(ring, number)", "over(ring, one, other)",
                "shared(one, other)"),
    "sums": ("made(ring, many, pairs)", "constant(ring, many, number)", "plus(ring, ones, others)",
             "minus(ring, ones, others)", "times(ring, ones, others)", "scaled(ring, row, number)",
             "raised(ring, row, count)", "slope(ring, row, unknown)", "value(ring, row, point)"),
    "orders": ("higher(order, one, other)", "divides(one, other)", "lead(order, row)", "least(one, other)",
               "less(one, other)"),
    "notes": ("shown(row)", "read(ring, many, text)"),
    "rows": ("row_made(prime, numbers)", "row_plus(prime, ones, others)", "row_minus(prime, ones, others)",
             "row_times(prime, ones, others)", "row_scaled(prime, row, number)", "row_slope(prime, row)", "row_of(ones)",
             "row_value(prime, row, place)", "sum_of(row)"),
    "dividing": ("divided(prime, row, by)", "meet(prime, ones, others)"),
    "squares": ("no_square(prime, row)", "parts(prime, row)"),
    "factors": ("factors(prime, row)", "unsplit(prime, row)"),
    "mains": ("power_in(row, unknown)", "main_in(row, unknown)", "quotient(row, by)", "rest_in(row, by, unknown)"),
    "greatest": ("content(row)", "common(ones, others)"),
    "partsin": ("no_square_in(row)", "parts_in(row)"),
    "reducing": ("reduced(prime, order, row, by)",),
    "bases": ("base(prime, order, given)", "differences(prime, order, rows)"),
    "asked": ("member(prime, order, given, row)", "same(prime, given, others)", "without(prime, given, count)"),
    "desk": ("answers(text)",),
}


class Interface(unittest.TestCase):
    def test_each_name_is_there_with_its_arguments(self):
        for module, told in INTERFACE.items():
            for line in told:
                name = line.partition("(")[0]
                with self.subTest(module=module, name=name):
                    action = getattr(import_module("polyring." + module), name)
                    self.assertEqual(name + str(inspect.signature(action)), line)
                    self.assertEqual(action.__module__, "polyring." + module)

    def test_spaces_is_there(self):
        import_module("polyring.spaces")


if __name__ == "__main__":
    unittest.main()
