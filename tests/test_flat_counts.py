"""Polynomials of flat parts, heights and flags: [1.3], [1.4]."""

import itertools
import math
import unittest

from primekinds.poly.polys import Poly, binomial, flags, heights
from tests.helper import error_of, is_like, odd_values

# No factor and no sum of factors in these tests has so many digits. So values at this number tell polynomials.
GREAT = 2 ** 64
NUMBERS = range(25)


def value_at(poly, number=GREAT):
    return sum(factor * number ** i for i, factor in enumerate(poly.factors))


def all_values():
    return {(n, k): value_at(binomial(n, k)) for n in NUMBERS for k in NUMBERS}


def flat_parts(prime, rank):
    """All parts of a flat group, each as the set of its elements, by putting elements to parts that are there."""
    zero = (0,) * rank
    found = {frozenset([zero])}
    queue = list(found)
    for part in queue:
        for new in itertools.product(range(prime), repeat=rank):
            if new not in part:
                more = frozenset(
                    tuple((x + times * y) % prime for x, y in zip(old, new)) for old in part for times in range(prime)
                )
                if more not in found:
                    found.add(more)
                    queue.append(more)
    return found


class Binomials(unittest.TestCase):
    def test_parts_listed(self):
        for prime, ranks in ((2, range(5)), (3, range(4)), (5, range(3))):
            for rank in ranks:
                sizes = [len(part) for part in flat_parts(prime, rank)]
                for many in range(rank + 3):
                    self.assertEqual(binomial(rank, many)(prime), sizes.count(prime ** many))

    def test_choices_listed(self):
        for whole in range(11):
            for many in range(whole + 1):
                row = [0] * (many * (whole - many) + 1)
                for choice in itertools.combinations(range(whole), many):
                    row[sum(choice) - many * (many - 1) // 2] += 1
                self.assertTrue(is_like(binomial(whole, many).factors, tuple(row)))

    def test_edges(self):
        for n in NUMBERS:
            self.assertEqual((binomial(n, 0), binomial(n, n)), (Poly((1,)), Poly((1,))))
            for k in range(n + 1, 25):
                self.assertEqual(binomial(n, k), Poly())
        self.assertEqual(binomial(24, 1).factors, (1,) * 24)
        self.assertEqual(str(binomial(4, 2)), "p^4 + p^3 + 2p^2 + p + 1")

    def test_quotient_of_heights(self):
        values = [value_at(heights(n)) for n in NUMBERS]
        for n in NUMBERS:
            for k in range(n + 1):
                self.assertEqual(value_at(binomial(n, k)) * values[k] * values[n - k], values[n])

    def test_sides_and_steps(self):
        values = all_values()
        for n in NUMBERS:
            for k in range(n + 1):
                poly = binomial(n, k)
                self.assertEqual(poly, binomial(n, n - k))
                self.assertEqual(poly.factors, poly.factors[::-1])
                self.assertEqual(poly.turned_round(k * (n - k)), poly)
                self.assertEqual(poly(1), math.comb(n, k))
                if k > 0:
                    self.assertEqual(values[n, k], values[n - 1, k - 1] + GREAT ** k * values[n - 1, k])

    def test_sums_with_signs(self):
        values = all_values()
        for n in NUMBERS:
            total = sum((-1) ** k * GREAT ** (k * (k - 1) // 2) * values[n, k] for k in range(n + 1))
            self.assertEqual(total, 1 if n == 0 else 0)

    def test_sums_of_products(self):
        values = all_values()
        for m in NUMBERS:
            for n in range(25 - m):
                for k in range(m + n + 1):
                    total = 0
                    for j in range(max(0, k - n), min(k, m) + 1):
                        total += GREAT ** ((m - j) * (k - j)) * values[m, j] * values[n, k - j]
                    self.assertEqual(values[m + n, k], total)

    def test_wrong_numbers(self):
        for value in odd_values() + (-1, 25, 10 ** 59, "x"):
            for call in (
                lambda: binomial(value, 0), lambda: binomial(3, value), lambda: binomial(value, value),
                lambda: heights(value), lambda: flags(value),
            ):
                self.assertTrue(is_like(error_of(call), ("InvalidNumber", value)), value)
        self.assertEqual(error_of(binomial, 25, -1), ("InvalidNumber", 25))
        self.assertEqual(error_of(binomial, 24, 25), ("InvalidNumber", 25))
        self.assertEqual(error_of(binomial, "a", None), ("InvalidNumber", "a"))
        self.assertTrue(is_like(error_of(binomial, True, False), ("InvalidNumber", True)))


class HeightsAndFlags(unittest.TestCase):
    def test_products(self):
        for n in NUMBERS:
            for p in (2, 3, -2, 10):
                self.assertEqual(value_at(heights(n), p), math.prod(p ** i - 1 for i in range(1, n + 1)))
                told = math.prod(sum(p ** j for j in range(i)) for i in range(1, n + 1))
                self.assertEqual(value_at(flags(n), p), told)
            self.assertEqual((heights(n).degree, heights(n).lead), (n * (n + 1) // 2, 1))
            self.assertEqual((flags(n).degree, flags(n).lead), (n * (n - 1) // 2, 1))
        self.assertEqual((heights(0), flags(0), flags(1)), (Poly((1,)), Poly((1,)), Poly((1,))))
        self.assertEqual((str(heights(2)), str(flags(3))), ("p^3 - p^2 - p + 1", "p^3 + 2p^2 + 2p + 1"))

    def test_flags_are_orders(self):
        for n in range(7):
            row = [0] * (n * (n - 1) // 2 + 1)
            for order in itertools.permutations(range(n)):
                row[sum(x > y for x, y in itertools.combinations(order, 2))] += 1
            self.assertEqual(flags(n).factors, tuple(row))

    def test_flags_times_gaps(self):
        for n in NUMBERS:
            self.assertEqual(flags(n) * Poly((-1, 1)).power(n), heights(n))


if __name__ == "__main__":
    unittest.main()
