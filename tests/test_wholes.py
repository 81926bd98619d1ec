"""Integers and primes: [0.1], [0.5], [0.8]."""

import unittest

from primekinds.base.wholes import PRIMES, is_integer, is_prime
from tests.helper import odd_values

NINES = 10 ** 60 - 1


class Wholes(unittest.TestCase):
    def test_primes_by_trying_all_divisors(self):
        told = tuple(n for n in range(2, 98) if all(n % d != 0 for d in range(2, n)))
        self.assertEqual(PRIMES, told)
        self.assertEqual(len(PRIMES), 25)
        self.assertIsInstance(PRIMES, tuple)

    def test_integers(self):
        for value in (0, 1, -1, 2, 10 ** 20, NINES, -NINES):
            self.assertIs(is_integer(value), True, value)

    def test_sixty_one_digits(self):
        for value in (10 ** 60, -10 ** 60, 10 ** 99, -10 ** 99, 10 ** 5000, -10 ** 5000):
            self.assertIs(is_integer(value), False)
            self.assertIs(is_prime(value), False)

    def test_other_values(self):
        for value in odd_values():
            self.assertIs(is_integer(value), False, value)
            self.assertIs(is_prime(value), False, value)

    def test_is_prime_of_integers(self):
        for value in range(-100, 300):
            self.assertIs(is_prime(value), value in PRIMES, value)
        for value in (NINES, -NINES, 2 ** 61 - 1, -2, -97):
            self.assertIs(is_prime(value), False, value)


if __name__ == "__main__":
    unittest.main()
