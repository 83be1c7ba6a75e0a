"""Promises [1] and [5] to [9], and of [4] that a ring is looked at first."""

import unittest
from math import gcd

from polyring.numbers import inverse, is_ring, over, settled, shared
from things import PRIMES, SAMPLE_RINGS, is_plain_number, no_rings, refusal_of

GREAT = 1234567890123456789012345678901234567890123
NUMBERS = (0, 1, -1, 2, -2, 3, 5, -6, 30, 31, 62, -31, 96, 97, 98, 996, 997, 998, -997, -998, 1994, GREAT, -GREAT,
           997 * GREAT, -997 * GREAT, 10 ** 40, -(10 ** 40), 2 ** 200, 10 ** 600 + 1)


class Rings(unittest.TestCase):
    def test_1_5_nought_and_each_prime_to_997_are_rings(self):
        self.assertEqual(len(PRIMES), 168)
        for ring in [0] + PRIMES:
            self.assertIs(is_ring(ring), True, ring)

    def test_1_5_no_other_whole_number_is_one(self):
        rings = set([0] + PRIMES)
        for number in range(-1100, 3000):
            self.assertIs(is_ring(number), number in rings, number)

    def test_1_5_what_is_of_another_kind_is_none(self):
        for place, thing in enumerate(no_rings()):
            with self.subTest(place=place):
                self.assertIs(is_ring(thing), False)

    def test_5_the_thing_stays_as_it_was(self):
        thing = [2, [3]]
        is_ring(thing)
        self.assertEqual(thing, [2, [3]])


class RingFirst(unittest.TestCase):
    def test_4_what_is_no_ring_is_refused_with_no_ring(self):
        for place, thing in enumerate(no_rings()):
            with self.subTest(place=place):
                self.assertEqual(refusal_of(settled, thing, 3), "NoRing")
                self.assertEqual(refusal_of(inverse, thing, 1), "NoRing")
                self.assertEqual(refusal_of(over, thing, 4, 2), "NoRing")

    def test_4_ahead_of_all_other_refusals(self):
        for place, thing in enumerate(no_rings()):
            with self.subTest(place=place):
                self.assertEqual(refusal_of(inverse, thing, 0), "NoRing")
                self.assertEqual(refusal_of(over, thing, 1, 0), "NoRing")
                self.assertEqual(refusal_of(over, thing, 7, 2), "NoRing")
                self.assertEqual(refusal_of(settled, thing, None), "NoRing")
                self.assertEqual(refusal_of(inverse, thing, None), "NoRing")
                self.assertEqual(refusal_of(over, thing, None, "text"), "NoRing")

    def test_4_a_product_is_refused_where_a_prime_would_answer(self):
        for ring in (4, 9, 25, 961, 989):
            self.assertEqual(refusal_of(inverse, ring, 1), "NoRing")


class Settled(unittest.TestCase):
    def test_6_over_the_whole_numbers_it_is_the_number_itself(self):
        for number in NUMBERS:
            self.assertEqual(settled(0, number), number)

    def test_6_over_a_prime_it_is_the_rest(self):
        for prime in PRIMES:
            for number in NUMBERS:
                rest = settled(prime, number)
                self.assertTrue(is_plain_number(rest) and 0 <= rest < prime, (prime, number))
                self.assertEqual((number - rest) % prime, 0, (prime, number))

    def test_6_told_examples(self):
        self.assertEqual(settled(7, -1), 6)
        self.assertEqual(settled(7, 14), 0)
        self.assertEqual(settled(2, -3), 1)
        self.assertEqual(settled(997, 10 ** 40), 10 ** 40 % 997)


class Shared(unittest.TestCase):
    def look_at(self, one, other):
        answer = shared(one, other)
        self.assertIsInstance(answer, tuple)
        self.assertEqual(len(answer), 3)
        self.assertTrue(all(is_plain_number(part) for part in answer), (one, other))
        g, u, v = answer
        self.assertEqual(g, gcd(one, other), (one, other))
        self.assertEqual(u * one + v * other, g, (one, other))

    def test_7_all_small_pairs(self):
        for one in range(-30, 31):
            for other in range(-30, 31):
                self.look_at(one, other)

    def test_7_numbers_of_any_size(self):
        for one in NUMBERS:
            for other in NUMBERS:
                self.look_at(one, other)
        self.look_at(GREAT * (10 ** 50 + 1), -GREAT * (10 ** 45 + 3))

    def test_7_nought(self):
        self.assertEqual(shared(0, 0)[0], 0)
        for number in (1, -1, 12, -12, GREAT, -GREAT):
            self.assertEqual(shared(number, 0)[0], abs(number))
            self.assertEqual(shared(0, number)[0], abs(number))

    def test_7_long_ladders(self):
        one, other = 1, 1
        while one < 10 ** 400:
            one, other = one + other, one
        self.look_at(one, other)
        self.look_at(-other, one)


class Inverse(unittest.TestCase):
    def test_8_over_each_prime(self):
        for prime in PRIMES:
            for number in list(range(1, min(prime, 40))) + [prime - 1, -1, 1 - prime, prime + 1, prime * GREAT + 1]:
                answer = inverse(prime, number)
                self.assertTrue(is_plain_number(answer) and 1 <= answer < prime, (prime, number))
                self.assertEqual(answer * number % prime, 1, (prime, number))

    def test_8_multiples_of_the_prime_are_refused(self):
        for prime in PRIMES:
            for number in (0, prime, -prime, 2 * prime, prime * GREAT, -prime * GREAT):
                self.assertEqual(refusal_of(inverse, prime, number), "NoInverse", (prime, number))

    def test_8_over_the_whole_numbers(self):
        self.assertEqual(inverse(0, 1), 1)
        self.assertEqual(inverse(0, -1), -1)
        for number in NUMBERS:
            if number not in (1, -1):
                self.assertEqual(refusal_of(inverse, 0, number), "NoInverse", number)


class Over(unittest.TestCase):
    def test_9_over_a_prime(self):
        for prime in SAMPLE_RINGS[1:]:
            for one in NUMBERS:
                for other in NUMBERS:
                    if other % prime == 0:
                        self.assertEqual(refusal_of(over, prime, one, other), "NoInverse", (prime, one, other))
                    else:
                        answer = over(prime, one, other)
                        self.assertTrue(is_plain_number(answer) and 0 <= answer < prime, (prime, one, other))
                        self.assertEqual((answer * other - one) % prime, 0, (prime, one, other))

    def test_9_over_the_whole_numbers(self):
        for answer in NUMBERS:
            for other in NUMBERS:
                if other != 0:
                    self.assertEqual(over(0, answer * other, other), answer)

    def test_9_nought_of_the_whole_numbers_is_refused_first(self):
        for one in NUMBERS:
            self.assertEqual(refusal_of(over, 0, one, 0), "NoInverse", one)

    def test_9_where_no_whole_number_does_it(self):
        for one, other in ((1, 2), (-1, 2), (1, -2), (7, 3), (-7, 3), (7, -3), (-7, -3), (3, 7), (GREAT, 2 * GREAT),
                           (2 * GREAT + 1, GREAT), (10 ** 40, 3)):
            self.assertEqual(refusal_of(over, 0, one, other), "NotWhole", (one, other))

    def test_9_over_a_prime_all_comes_out_whole(self):
        self.assertEqual(over(7, 1, 2), 4)
        self.assertEqual(over(7, 7, 2), 0)
        self.assertEqual(over(997, -1, 1), 996)


if __name__ == "__main__":
    unittest.main()
