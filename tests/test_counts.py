"""Parts counted: [0.14], [5.1] to [5.5]."""

import itertools
import unittest

from primekinds.count.counts import (
    all_count, by_size, kind_counts, kind_of_counts, part_count, size_count, tuples_within,
)
from primekinds.kind.kinds import Kind
from primekinds.poly.polys import Poly
from tests.helper import (
    all_parts, error_of, is_like, kind_of, odd_ones, odd_values, rest_of, rows_up_to,
)

NINES = 10 ** 60 - 1
LISTED = [
    (prime, row) for prime, most in ((2, 5), (3, 3), (5, 2), (7, 2)) for row in rows_up_to(most)
] + [(2, (3, 2, 1)), (2, (4, 2)), (2, (2, 2, 2)), (3, (2, 2)), (3, (3, 1)), (5, (2, 1))]


def tuples_told(row):
    """All tuples within a kind."""
    return itertools.product(*[range(number + 1) for number in row])


def left_of(numbers):
    return tuple(sorted((number for number in numbers if number > 0), reverse=True))


class Listed(unittest.TestCase):
    def test_kinds_of_all_parts(self):
        for prime, row in LISTED:
            if prime ** sum(row) <= 81 and row != (1,) * 5:
                got = [(kind_of(prime, row, part), rest_of(prime, row, part)) for part in all_parts(prime, row)]
                kinds, rests = [one for one, _ in got], [one for _, one in got]
                for inner in rows_up_to(sum(row) + 1):
                    many = part_count(Kind(row), Kind(inner))(prime)
                    self.assertEqual(many, kinds.count(inner), (prime, row, inner))
                    # As many parts have this rest.
                    self.assertEqual(many, rests.count(inner))
                told = {inner: kinds.count(inner) for inner in sorted(set(kinds))}
                counts = kind_counts(Kind(row))
                self.assertTrue(is_like({key: poly(prime) for key, poly in counts.items()}, told))

    def test_sizes_of_all_parts(self):
        for prime, row in LISTED:
            sizes = [len(part) for part in all_parts(prime, row)]
            kind = Kind(row)
            told = [sizes.count(prime ** many) for many in range(sum(row) + 1)]
            self.assertEqual([poly(prime) for poly in by_size(kind)], told)
            self.assertEqual([size_count(kind, many)(prime) for many in range(sum(row) + 1)], told)
            self.assertEqual(all_count(kind)(prime), len(sizes))


class Told(unittest.TestCase):
    def test_form_of_the_polynomials(self):
        for row in rows_up_to(7) + [(4, 3, 2, 1), (3, 3, 3, 3), (5, 3, 2, 1, 1), (12,), (1,) * 12]:
            for inner in rows_up_to(7 if sum(row) < 8 else 5):
                kind, other = Kind(row), Kind(inner)
                poly = part_count(kind, other)
                self.assertIs(bool(poly), kind.holds(other))
                if poly:
                    turned, under = kind.turned, other.turned
                    self.assertTrue(min(poly.factors) >= 0 and poly.lead == 1)
                    self.assertEqual(poly.degree, sum(m * (turned[i] - m) for i, m in enumerate(under)))

    def test_counts_by_size(self):
        for row in rows_up_to(9) + [(4, 3, 2, 1, 1, 1), (5, 3, 2, 1, 1), (3, 3, 3, 3), (12,), (1,) * 12, (2,) * 6]:
            kind = Kind(row)
            polys = by_size(kind)
            self.assertEqual((len(polys), polys[::-1], polys[0]), (kind.size + 1, polys, Poly((1,))))
            for k in range(1, kind.size // 2 + 1):
                self.assertTrue(all(factor >= 0 for factor in polys[k] - polys[k - 1]), (row, k))
            self.assertEqual(size_count(kind, kind.size // 2), polys[kind.size // 2])
            total = Poly()
            for poly in kind_counts(kind).values():
                total = total + poly
            self.assertEqual(all_count(kind), total)
            self.assertEqual(list(kind_counts(kind)), sorted(kind_counts(kind)))

    def test_tuples(self):
        for row in rows_up_to(7) + [(3, 3, 3), (4, 3, 2, 1), (1,) * 9, (2,) * 5]:
            kind = Kind(row)
            told = [left_of(one) for one in tuples_told(row)]
            for inner in rows_up_to(sum(row) if sum(row) < 6 else 5):
                self.assertTrue(is_like(tuples_within(kind, Kind(inner)), told.count(inner)), (row, inner))
                self.assertEqual(part_count(kind, Kind(inner))(1), told.count(inner))
            sums = [sum(one) for one in told]
            self.assertEqual([poly(1) for poly in by_size(kind)], [sums.count(k) for k in range(kind.size + 1)])
        self.assertEqual(tuples_within(Kind((1,) * 12), Kind((1,) * 6)), 924)
        self.assertEqual(tuples_within(Kind((1,)), Kind((1,) * 12)), 0)
        self.assertEqual(tuples_within(Kind((2, 2, 1)), Kind((2, 2, 2, 2, 2, 2))), 0)
        # The value at 1 of a number of parts need not be 1.
        self.assertEqual(part_count(Kind((2, 1)), Kind((1,)))(1), 2)

    def test_edges(self):
        none, one = Kind(), Poly((1,))
        self.assertEqual((part_count(none, none), by_size(none), all_count(none)), (one, (one,), one))
        self.assertEqual((kind_counts(none), tuples_within(none, none), size_count(none, 0)), ({(): one}, 1, one))
        self.assertEqual(part_count(none, Kind((1,))), Poly())
        self.assertEqual(str(part_count(Kind((12,)), Kind((7,)))), "1")
        self.assertEqual(str(part_count(Kind((11, 1)), Kind((1,)))), "p + 1")


class KindsOfCounts(unittest.TestCase):
    def test_all_kinds(self):
        for row in rows_up_to(12):
            self.assertEqual(kind_of_counts(by_size(Kind(row))), Kind(row), row)

    def test_counts_of_no_kind(self):
        one = Poly((1,))
        for row in rows_up_to(4):
            polys = by_size(Kind(row))
            for at in range(len(polys)):
                for other in (
                    Poly(), Poly((2,)), polys[at] + 1, polys[at].raised(1), -polys[at], Poly((0,) * 399 + (1,)),
                ):
                    near = polys[:at] + (other,) + polys[at + 1:]
                    if near != polys:
                        self.assertIsNone(kind_of_counts(near))
        for polys in (
            (), (Poly(),), (one, Poly((2,))), (one, one, Poly()), (one,) * 3 + (Poly((NINES,)),), (Poly(),) * 13,
        ):
            self.assertIsNone(kind_of_counts(polys))
        # These polynomials have at 1 the values of a kind, and are those of none.
        self.assertIsNone(kind_of_counts((one, Poly((0, 2)), one)))
        self.assertIsNone(kind_of_counts((one, Poly((1, 0, 1)), one)))
        self.assertEqual(kind_of_counts((one,) * 13), Kind((12,)))

    def test_long_factors(self):
        long_one = Poly((NINES, NINES)) * Poly((NINES,))
        self.assertIsNone(kind_of_counts((Poly((1,)), long_one, Poly((1,)))))

    def test_wrong_polys(self):
        one = Poly((1,))
        for value in odd_ones(tuple) + [
            one, [one], (one,) * 14, (1,), (one, 1), (one, None), (one, "p"), "1", {0: one},
        ]:
            self.assertEqual(error_of(kind_of_counts, value), ("InvalidPoly",))
        for value in odd_ones(Poly):
            self.assertEqual(error_of(kind_of_counts, (one, value)), ("InvalidPoly",))


class Wrong(unittest.TestCase):
    def test_wrong_kinds(self):
        kind = Kind((2, 1))
        for value in odd_ones(Kind) + [(2, 1), "[2 1]", 3]:
            for call in (part_count, tuples_within):
                for given in ((value, 5), (value, kind), (kind, value)):
                    self.assertEqual(error_of(call, *given), ("InvalidKind",))
            for call in (by_size, all_count, kind_counts):
                self.assertEqual(error_of(call, value), ("InvalidKind",))
            for many in (-1, 0, True):
                self.assertEqual(error_of(size_count, value, many), ("InvalidKind",))

    def test_wrong_numbers(self):
        for value in odd_values() + (-1, 4, 12, NINES):
            self.assertTrue(is_like(error_of(size_count, Kind((2, 1)), value), ("InvalidNumber", value)))
        self.assertEqual(error_of(size_count, Kind(), 1), ("InvalidNumber", 1))
        self.assertEqual(size_count(Kind((12,)), 12), Poly((1,)))

    def test_what_is_returned_is_not_shared(self):
        kind = Kind((2, 1))
        kind_counts(kind).clear()
        self.assertEqual(len(kind_counts(kind)), 5)


if __name__ == "__main__":
    unittest.main()
