"""Parts by kind and rest: [0.14], [6.1] to [6.8]."""

import collections
import itertools
import unittest

from primekinds.count.counts import part_count
from primekinds.kind.kinds import Kind, flats_over, kinds_of, kinds_within
from primekinds.poly.polys import Poly, binomial
from primekinds.ring.halls import MAX_HALL, can_part, flat_hall, hall, lead_count, pairs_at_one, pairs_in
from tests.helper import all_parts, error_of, is_like, kind_of, odd_ones, rest_of, rows_up_to

LISTED = [(prime, row) for prime, most in ((2, 4), (3, 3), (5, 2), (7, 2)) for row in rows_up_to(most)] + [
    (2, (5,)), (2, (4, 1)), (2, (3, 2)), (2, (3, 1, 1)), (2, (2, 2, 1)), (2, (2, 1, 1, 1)), (2, (3, 2, 1)), (2, (4, 2)),
    (2, (3, 3)), (2, (2, 2, 2)), (3, (2, 2)), (3, (3, 1)), (3, (2, 1, 1)), (5, (2, 1)), (7, (2, 1)),
]


def pairs_told(prime, row):
    """How many parts there are with a rest and a kind, by listing."""
    return collections.Counter((rest_of(prime, row, part), kind_of(prime, row, part)) for part in all_parts(prime, row))


def kinds_up_to(size):
    return [Kind(row) for row in rows_up_to(size)]


class Listed(unittest.TestCase):
    def test_parts_by_rest_and_kind(self):
        for prime, row in LISTED:
            told = pairs_told(prime, row)
            kind = Kind(row)
            some = rows_up_to(sum(row))
            for rest, inner in itertools.product(some, repeat=2):
                if sum(rest) + sum(inner) == sum(row):
                    poly = hall(kind, Kind(rest), Kind(inner))
                    self.assertEqual(poly(prime), told[rest, inner], (prime, row, rest, inner))
                    self.assertIs(can_part(kind, Kind(rest), Kind(inner)), told[rest, inner] > 0)
                    if max(inner, default=0) <= 1:
                        self.assertEqual(flat_hall(kind, Kind(rest)), poly)
            counts = {pair: poly(prime) for pair, poly in pairs_in(kind).items()}
            self.assertTrue(is_like(counts, {pair: told[pair] for pair in sorted(told)}))


class Reckoned(unittest.TestCase):
    def test_pairs_and_calls_agree(self):
        for kind in kinds_up_to(8):
            pairs = pairs_in(kind)
            self.assertEqual(list(pairs), sorted(pairs))
            for (rest, inner), poly in pairs.items():
                self.assertTrue(poly)
                self.assertEqual(pairs[inner, rest], poly)
                if kind.size < 8 or sum(rest) % 3 == 0:
                    self.assertEqual(hall(kind, Kind(rest), Kind(inner)), poly)
                    self.assertEqual(lead_count(kind, Kind(rest), Kind(inner)), poly.lead)

    def test_sizes_that_do_not_fit(self):
        some = kinds_up_to(4)
        for kind, rest, inner in itertools.product(some, repeat=3):
            if rest.size + inner.size != kind.size or not (kind.holds(rest) and kind.holds(inner)):
                self.assertEqual(hall(kind, rest, inner), Poly())
                self.assertEqual(lead_count(kind, rest, inner), 0)
                self.assertIs(can_part(kind, rest, inner), False)

    def test_sums_over_the_rests(self):
        for kind in kinds_up_to(7):
            totals = collections.defaultdict(Poly)
            for (_, inner), poly in pairs_in(kind).items():
                totals[inner] = totals[inner] + poly
            self.assertEqual(sorted(totals), sorted(inner.numbers for inner in kinds_within(kind)))
            for inner, poly in totals.items():
                self.assertEqual(poly, part_count(kind, Kind(inner)))
            self.assertEqual(hall(kind, kind, Kind()), Poly((1,)))
            self.assertEqual(hall(kind, Kind(), kind), Poly((1,)))

    def test_flat_parts(self):
        for kind in kinds_up_to(9) + list(kinds_of(12))[::5]:
            for rest in kinds_within(kind):
                many = kind.size - rest.size
                poly = flat_hall(kind, rest)
                self.assertIs(bool(poly), kind in flats_over(rest, many), (kind.numbers, rest.numbers))
                self.assertEqual(poly, hall(kind, rest, Kind((1,) * many)))
                self.assertEqual(poly, hall(kind, Kind((1,) * many), rest))
        self.assertEqual(flat_hall(Kind((2,)), Kind((2, 1))), Poly())
        self.assertEqual(flat_hall(Kind((2,)), Kind((1, 1))), Poly())
        self.assertEqual(flat_hall(Kind((12,)), Kind((11,))), Poly((1,)))
        self.assertEqual(flat_hall(Kind((1,) * 12), Kind((1,) * 6)), binomial(12, 6))

    def test_degrees_and_leads(self):
        for kind in kinds_up_to(8):
            turned = {(Kind(m).turned.numbers, Kind(v).turned.numbers): poly for (m, v), poly in pairs_in(kind).items()}
            others = pairs_in(kind.turned)
            self.assertEqual(set(turned), set(others))
            for (rest, inner), poly in pairs_in(kind).items():
                self.assertEqual(poly.degree, kind.slant - Kind(rest).slant - Kind(inner).slant)
                self.assertGreater(poly.lead, 0)
                self.assertTrue(all(poly(prime) > 0 for prime in (2, 3, 5, 7, 97)))
            for pair, poly in turned.items():
                self.assertEqual(poly.lead, others[pair].lead)

    def test_great_sizes(self):
        nine = Kind((5, 4))
        self.assertEqual(str(hall(nine, Kind((4, 4)), Kind((1,)))), "1")
        self.assertEqual(str(hall(nine, Kind((1,)), Kind((5, 3)))), "p")
        self.assertEqual(str(hall(Kind((9, 2)), Kind((8, 2)), Kind((1,)))), "1")
        self.assertEqual(hall(nine, nine, Kind()), Poly((1,)))
        self.assertEqual(hall(nine, Kind((1,)), Kind((1,))), Poly())
        two, line = Kind((2,)), Kind((7,))
        for call in (hall, can_part, lead_count):
            for rest, inner in ((line, two), (two, line), (two, two), (Kind((2, 1)), Kind((12,)))):
                self.assertEqual(error_of(call, nine, rest, inner), ("TooMany", 8))
                self.assertNotEqual(error_of(call, Kind((8,)), rest, inner), ("TooMany", 8))
            self.assertEqual(error_of(call, nine, two, Kind((1, 1)))[0], "no error")
        self.assertEqual(error_of(pairs_in, nine), ("TooMany", 8))
        self.assertEqual(len(pairs_in(Kind((8,)))), 9)
        self.assertEqual(MAX_HALL, 8)


class AtOne(unittest.TestCase):
    def test_pairs_listed(self):
        for row in rows_up_to(6):
            found = collections.Counter()
            for one in itertools.product(*[range(number + 1) for number in row]):
                other = tuple(number - x for number, x in zip(row, one))
                found[tuple(tuple(sorted((x for x in some if x), reverse=True)) for some in (one, other))] += 1
            for rest, inner in itertools.product(rows_up_to(sum(row)), repeat=2):
                many = pairs_at_one(Kind(row), Kind(rest), Kind(inner))
                self.assertTrue(is_like(many, found[rest, inner]), (row, rest, inner))

    def test_values_at_one(self):
        for kind in kinds_up_to(8):
            for (rest, inner), poly in pairs_in(kind).items():
                self.assertEqual(poly(1), pairs_at_one(kind, Kind(rest), Kind(inner)))

    def test_edges(self):
        flat = Kind((1,) * 12)
        self.assertEqual(pairs_at_one(flat, Kind((1,) * 6), Kind((1,) * 6)), 924)
        self.assertEqual(pairs_at_one(Kind((12,)), Kind((5,)), Kind((7,))), 1)
        self.assertEqual(pairs_at_one(Kind((2, 2)), Kind((1, 1)), Kind((1, 1))), 1)
        self.assertEqual(pairs_at_one(Kind((2, 2)), Kind((1, 1, 1)), Kind((1,))), 0)
        self.assertEqual(pairs_at_one(Kind((2, 2)), Kind((1,)), Kind((1, 1, 1))), 0)
        self.assertEqual((pairs_at_one(Kind(), Kind(), Kind()), pairs_at_one(Kind(), Kind(), Kind((1,)))), (1, 0))
        self.assertEqual(pairs_at_one(Kind((3, 1)), Kind((2,)), Kind((2,))), 0)


class Wrong(unittest.TestCase):
    def test_wrong_kinds(self):
        kind, flat = Kind((5, 4)), Kind((1,))
        for value in odd_ones(Kind) + [(2, 1), "[2 1]", 3]:
            for call in (hall, can_part, lead_count, pairs_at_one):
                for given in ((value, 5, 5), (kind, value, 5), (kind, Kind((2,)), value)):
                    self.assertEqual(error_of(call, *given), ("InvalidKind",))
                for given in ((value, flat, flat), (flat, value, flat), (flat, flat, value)):
                    self.assertEqual(error_of(call, *given), ("InvalidKind",))
            for given in ((value, 5), (value, flat), (kind, value)):
                self.assertEqual(error_of(flat_hall, *given), ("InvalidKind",))
            self.assertEqual(error_of(pairs_in, value), ("InvalidKind",))

    def test_what_is_returned_is_not_shared(self):
        pairs_in(Kind((2, 1))).clear()
        self.assertEqual(len(pairs_in(Kind((2, 1)))), 6)

    def test_what_is_not_true(self):
        one, two, flat, wide = Kind((1,)), Kind((2,)), Kind((1, 1)), Kind((2, 2))
        self.assertTrue(wide.holds(two) and wide.holds(flat))
        self.assertEqual(hall(wide, flat, two), Poly())
        step = Kind((2, 1))
        self.assertEqual((str(hall(step, one, two)), str(hall(step.turned, one.turned, two.turned))), ("p", "1"))
        self.assertEqual(str(hall(Kind((3, 2, 1)), step, step)), "2p^2 + p - 1")
        # A part of a told kind can leave several kinds.
        self.assertTrue(can_part(step, flat, one) and can_part(step, two, one))


if __name__ == "__main__":
    unittest.main()
