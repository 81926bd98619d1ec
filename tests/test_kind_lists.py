"""The lists of kinds: [2.7], [2.9], [2.10]."""

import unittest

from primekinds.kind.kinds import Kind, flats_over, kinds_of, kinds_within, lines_over
from tests.helper import cells, error_of, is_like, odd_values, ordered, rows_up_to

NINES = 10 ** 60 - 1


def numbers_of(kinds):
    return [kind.numbers for kind in kinds]


def steps_by_cells(row, many, place):
    """The rows with so many cells more, of which no two have the same number at one place."""
    told = []
    for more in ordered(sum(row) + many):
        new = cells(more) - cells(row)
        if cells(row) <= cells(more) and len({cell[place] for cell in new}) == len(new):
            told.append(more)
    return told


class Sizes(unittest.TestCase):
    def test_kinds_of_each_size(self):
        many = [1, 1, 2, 3, 5, 7, 11, 15, 22, 30, 42, 56, 77]
        for size in range(13):
            kinds = kinds_of(size)
            self.assertIsInstance(kinds, tuple)
            self.assertEqual(len(kinds), many[size])
            self.assertEqual(numbers_of(kinds), ordered(size))
            self.assertTrue(kinds[0].is_line and kinds[-1].is_flat)
            self.assertTrue(all(one < other for one, other in zip(kinds, kinds[1:])))

    def test_wrong_sizes(self):
        for value in odd_values() + (-1, 13, NINES):
            self.assertTrue(is_like(error_of(kinds_of, value), ("InvalidNumber", value)), value)


class Within(unittest.TestCase):
    def test_kinds_within(self):
        rows = rows_up_to(12)
        for row in rows_up_to(8) + [(6, 6), (12,), (1,) * 12, (5, 4, 2, 1)]:
            kinds = kinds_within(Kind(row))
            self.assertIsInstance(kinds, tuple)
            self.assertEqual(numbers_of(kinds), [other for other in rows if cells(other) <= cells(row)], row)
        self.assertEqual(kinds_within(Kind()), (Kind(),))

    def test_wrong_kinds(self):
        for value in odd_values() + (0, 1, "[2 1]", (2, 1)):
            if not isinstance(value, Kind):
                self.assertEqual(error_of(kinds_within, value), ("InvalidKind",), value)


class Steps(unittest.TestCase):
    def test_steps_by_cells(self):
        for row in rows_up_to(6) + [(3, 3, 1, 1), (5, 2, 2), (8, 1)]:
            for many in range(6):
                if sum(row) + many <= 12:
                    flats, lines = flats_over(Kind(row), many), lines_over(Kind(row), many)
                    self.assertIsInstance(flats, tuple)
                    self.assertIsInstance(lines, tuple)
                    self.assertEqual(numbers_of(flats), steps_by_cells(row, many, 0), (row, many))
                    self.assertEqual(numbers_of(lines), steps_by_cells(row, many, 1), (row, many))

    def test_turning(self):
        for row in rows_up_to(7):
            for many in range(13 - sum(row)):
                kind = Kind(row)
                flats = sorted([over.turned for over in flats_over(kind, many)])
                self.assertEqual(flats, list(lines_over(kind.turned, many)), (row, many))

    def test_edges(self):
        for row in rows_up_to(12):
            self.assertEqual(flats_over(Kind(row), 0), (Kind(row),))
            self.assertEqual(lines_over(Kind(row), 0), (Kind(row),))
        for many in range(13):
            self.assertEqual(flats_over(Kind(), many), (Kind((1,) * many),))
            self.assertEqual(lines_over(Kind(), many), (Kind((many,) if many else ()),))

    def test_wrong_arguments(self):
        for call in (flats_over, lines_over):
            for value in odd_values() + (-1, 13, NINES):
                for kind in (Kind(), Kind((12,))):
                    self.assertTrue(is_like(error_of(call, kind, value), ("InvalidNumber", value)), value)
                if not isinstance(value, Kind):
                    self.assertEqual(error_of(call, value, 1), ("InvalidKind",), value)
                    self.assertEqual(error_of(call, value, 99), ("InvalidKind",), value)
                    self.assertEqual(error_of(call, value, True), ("InvalidKind",), value)
            for row, many in (((12,), 1), ((6, 6), 12), ((1,), 12), ((7,), 6)):
                self.assertEqual(error_of(call, Kind(row), many), ("TooMany", 12))
            self.assertEqual(error_of(call, Kind((12,)), 13), ("InvalidNumber", 13))


if __name__ == "__main__":
    unittest.main()
