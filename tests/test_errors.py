"""The classes of refusals, as the interface tells them."""

import unittest

from polyring import errors
from polyring.errors import AlgebraError
from things import REFUSALS


class Classes(unittest.TestCase):
    def test_any_refusal_is_a_value_error(self):
        self.assertTrue(issubclass(AlgebraError, ValueError))

    def test_all_fifteen_are_there_under_algebra_error(self):
        self.assertEqual(len(set(REFUSALS)), 15)
        for name in REFUSALS:
            with self.subTest(name):
                kind = getattr(errors, name)
                self.assertEqual(kind.__name__, name)
                self.assertTrue(issubclass(kind, AlgebraError))
                self.assertIsNot(kind, AlgebraError)

    def test_none_stands_under_another_one(self):
        for name in REFUSALS:
            for other in REFUSALS:
                if name != other:
                    with self.subTest(name=name, other=other):
                        self.assertFalse(issubclass(getattr(errors, name), getattr(errors, other)))

    def test_each_can_be_raised_and_taken_by_its_own_name_alone(self):
        for name in REFUSALS:
            kind = getattr(errors, name)
            with self.subTest(name):
                with self.assertRaises(kind) as taken:
                    raise kind("words")
                self.assertEqual([one for one in REFUSALS if isinstance(taken.exception, getattr(errors, one))], [name])


if __name__ == "__main__":
    unittest.main()
