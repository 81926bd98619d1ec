"""Shares of kinds, and what they add up to: [0.21], [13.8], [13.9]."""

import itertools
import unittest
from fractions import Fraction
from math import gcd

from primekinds.base.wholes import PRIMES
from primekinds.kind.kinds import Kind, kinds_of
from primekinds.maps.maps import onto_count, undoable_count
from primekinds.table.shares import left_share, onto_share, share, size_share
from primekinds.table.tables import Table, left_count
from tests.helper import all_images, elements_of, error_of, is_like, led_to, odd_ones, odd_values, rows_up_to

NINES = 10 ** 60 - 1
SOME_PRIMES = (2, 3, 7, 97)


def pair_of(fraction):
    return fraction.numerator, fraction.denominator


def own_maps_told(prime, row):
    """How many own maps lead unlike elements to unlike elements."""
    some = elements_of(prime, row)
    return sum(
        len({led_to(prime, row, images, one) for one in some}) == len(some) for images in all_images(prime, row, row)
    )


def shrunk(prime, many):
    """The product of all 1 - p ** -i for i from 1."""
    value = Fraction(1)
    for i in range(1, many + 1):
        value *= 1 - Fraction(1, prime ** i)
    return value


class Shares(unittest.TestCase):
    def test_by_listing(self):
        for prime, row in (
            (2, ()), (2, (1,)), (2, (3,)), (2, (1, 1)), (2, (2, 1)), (3, (1, 1)), (2, (1, 1, 1)), (3, (2,)), (2, (2, 2))
        ):
            self.assertTrue(is_like(share(prime, Kind(row)), (1, own_maps_told(prime, row))), (prime, row))

    def test_by_numbers_of_maps(self):
        for prime in SOME_PRIMES:
            for row in rows_up_to(6) + [(12,), (1,) * 12, (6, 6), (5, 4, 2, 1)]:
                self.assertTrue(is_like(share(prime, Kind(row)), (1, undoable_count(Kind(row))(prime))))

    def test_sums_over_a_size(self):
        for prime in PRIMES:
            for size in range(13 if prime in SOME_PRIMES else 5):
                total = sum(Fraction(*share(prime, kind)) for kind in kinds_of(size))
                self.assertTrue(is_like(size_share(prime, size), pair_of(total)), (prime, size))
                self.assertEqual(total, Fraction(1, prime ** size) / shrunk(prime, size))

    def test_sums_with_maps_onto(self):
        for prime in (2, 3, 97):
            for size in range(8):
                for row in rows_up_to(7):
                    inner = Kind(row)
                    total = sum(
                        Fraction(*share(prime, kind)) * onto_count(kind, inner)(prime) for kind in kinds_of(size)
                    )
                    self.assertTrue(
                        is_like(onto_share(prime, size, inner), pair_of(Fraction(total))), (prime, size, row)
                    )
        for prime in PRIMES:
            self.assertEqual(onto_share(prime, 12, Kind((12,))), (1, 1))
            self.assertEqual(onto_share(prime, 11, Kind((12,))), (0, 1))
            self.assertEqual(onto_share(prime, 12, Kind()), size_share(prime, 12))
            self.assertEqual(
                (share(prime, Kind()), size_share(prime, 0), onto_share(prime, 0, Kind((1,)))), ((1, 1), (1, 1), (0, 1))
            )

    def test_tables_by_listing(self):
        for prime, many, n, m in (
            (2, 1, 2, 2), (2, 2, 2, 2), (3, 1, 2, 2), (2, 1, 2, 3), (2, 1, 3, 2), (2, 3, 1, 2), (3, 2, 1, 1)
        ):
            lines = list(itertools.product(range(prime ** many), repeat=m))
            found, total = {}, 0
            for rows in itertools.product(lines, repeat=n):
                numbers = Table(prime, many, rows).left.numbers
                found[numbers] = found.get(numbers, 0) + 1
                total += 1
            for row in rows_up_to(many * m):
                told = pair_of(Fraction(found.get(row, 0), total))
                self.assertTrue(is_like(left_share(prime, n, m, many, Kind(row)), told), (prime, many, n, m, row))

    def test_square_tables(self):
        for prime in SOME_PRIMES:
            for n in range(1, 5):
                for many in range(1, 12 // n + 1):
                    for row in rows_up_to(6):
                        kind = Kind(row)
                        if len(row) <= n and kind.height < many:
                            told = Fraction(*share(prime, kind)) * shrunk(prime, n)
                            told *= shrunk(prime, n) / shrunk(prime, n - len(row))
                            self.assertEqual(left_share(prime, n, n, many, kind), pair_of(told))

    def test_parts_of_all_tables(self):
        for prime, n, m, many in ((2, 1, 4, 3), (97, 4, 1, 12), (5, 3, 2, 6), (2, 4, 4, 3), (3, 2, 3, 4)):
            total = Fraction(0)
            for size in range(13):
                for kind in kinds_of(size):
                    top, bottom = left_share(prime, n, m, many, kind)
                    self.assertTrue(bottom > 0 and gcd(top, bottom) == 1)
                    self.assertEqual(
                        Fraction(top, bottom) * prime ** (many * n * m), left_count(n, m, many, kind)(prime)
                    )
                    total += Fraction(top, bottom)
            self.assertEqual(total, 1)
        self.assertEqual(left_share(2, 2, 2, 2, Kind((3,))), (0, 1))
        self.assertEqual(left_share(2, 2, 2, 2, Kind((1, 1, 1))), (0, 1))

    def test_wrong_arguments(self):
        for value in odd_values() + (0, 1, 4, 91, 101, -2, NINES):
            for call in (
                lambda: share(value, 5), lambda: size_share(value, -1), lambda: onto_share(value, -1, 5),
                lambda: left_share(value, 9, 9, 99, 5),
            ):
                self.assertTrue(is_like(error_of(call), ("InvalidNumber", value)))
        for value in odd_values() + (-1, 13, NINES):
            self.assertTrue(is_like(error_of(size_share, 97, value), ("InvalidNumber", value)))
            self.assertTrue(is_like(error_of(onto_share, 97, value, 5), ("InvalidNumber", value)))
        for value in odd_values() + (0, 5, -1, NINES):
            self.assertTrue(is_like(error_of(left_share, 2, value, 9, 99, 5), ("InvalidNumber", value)))
            self.assertTrue(is_like(error_of(left_share, 2, 4, value, 99, 5), ("InvalidNumber", value)))
        for value in odd_values() + (0, 13, -1, NINES):
            self.assertTrue(is_like(error_of(left_share, 2, 4, 4, value, 5), ("InvalidNumber", value)))
        for value in odd_ones(Kind) + [(1,), 1]:
            self.assertEqual(error_of(share, 2, value), ("InvalidKind",))
            self.assertEqual(error_of(onto_share, 2, 12, value), ("InvalidKind",))
            self.assertEqual(error_of(left_share, 2, 4, 4, 12, value), ("InvalidKind",))
        self.assertEqual(error_of(left_share, 2, 1, 4, 4, Kind()), ("TooMany", 12))


if __name__ == "__main__":
    unittest.main()
