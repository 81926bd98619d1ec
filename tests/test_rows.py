"""Rows of parts, and how many there are: [0.20], [11.6] to [11.10]."""

import itertools
import unittest

from primekinds.chain.fillings import filling_count, weight_poly
from primekinds.chain.rows import (
    MAX_ROWS, MAX_STEPPED, flat_row_count, is_row_of_parts, row_count, rows_of_parts, step_row_count,
)
from primekinds.group.groups import Group
from primekinds.group.parts import Part, parts
from primekinds.kind.kinds import Kind, kinds_of
from primekinds.poly.polys import Poly
from primekinds.ring.rings import KindSum, whole
from tests.helper import (
    all_parts, elements_of, error_of, first_of, is_like, kind_by_counts, kind_of, lines_run, odd_ones, paper_values,
    rows_up_to, times,
)

NINES = 10 ** 60 - 1
STEP = Kind((2, 1))
LISTED = [(2, row) for row in rows_up_to(4)] + [(3, row) for row in rows_up_to(3)] + [
    (2, (3, 2)), (2, (2, 2, 1)), (2, (4, 1)), (3, (2, 2)), (3, (3, 1)), (5, (1, 1)), (5, (2,)), (7, (1, 1)),
]


def sizes_of(total):
    """All tuples of integers from 1 on with a sum."""
    if total == 0:
        return [()]
    return [(first,) + behind for first in range(1, total + 1) for behind in sizes_of(total - first)]


def step_of(prime, row, upper, lower):
    """The numbers of the kind of one part modulo another one within it."""
    powers = [prime ** k for k in range(max(row, default=0) + 1)]
    return kind_by_counts(
        prime, [sum(times(prime, row, x, many) in lower for x in upper) // len(lower) for many in powers]
    )


def rows_told(prime, row, sizes, every):
    """All rows of parts by plain listing, as tuples of sets."""
    found, many = [()], 1
    for size in sizes:
        many *= prime ** size
        found = [
            (*some, part) for some in found for part in every
            if len(part) == many and (not some or some[-1] <= part)
        ]
    return found


def steps_told(prime, row, some):
    """The kinds of the steps of a row of parts."""
    zero = frozenset([(0,) * len(row)])
    return tuple(step_of(prime, row, upper, lower) for lower, upper in zip((zero,) + some, some))


def by_fillings(kind, sizes):
    """The polynomials of [11.7] and [11.8]."""
    total, flat = Poly(), Poly()
    for shape in kinds_of(kind.size):
        poly = weight_poly(shape, kind).turned_round(kind.slant)
        total = total + poly * filling_count(shape, sizes)
        flat = flat + poly * filling_count(shape.turned, sizes)
    return total, flat.over(Poly((1,)).raised(sum(size * (size - 1) // 2 for size in sizes)))


class Counts(unittest.TestCase):
    def test_by_fillings(self):
        for size in range(7):
            for kind in kinds_of(size):
                for sizes in sizes_of(size)[::1 if size < 5 else 3]:
                    total, flat = by_fillings(kind, sizes)
                    self.assertEqual(row_count(kind, sizes), total, (str(kind), sizes))
                    self.assertEqual(flat_row_count(kind, sizes), flat, (str(kind), sizes))
        for row, sizes in (((3, 2, 2, 1), (2, 3, 1, 2)), ((8,), (4, 4)), ((1,) * 8, (1,) * 8), ((4, 4), (2, 2, 2, 2))):
            self.assertEqual(
                (row_count(Kind(row), sizes), flat_row_count(Kind(row), sizes)), by_fillings(Kind(row), sizes)
            )

    def test_by_listing(self):
        for prime, row in LISTED:
            every, kind = all_parts(prime, row), Kind(row)
            for sizes in sizes_of(sum(row)):
                found = rows_told(prime, row, sizes, every)
                steps = [steps_told(prime, row, some) for some in found]
                self.assertTrue(is_like(row_count(kind, sizes)(prime), len(found)), (prime, row, sizes))
                flat = sum(all(max(step) == 1 for step in some) for some in steps)
                self.assertEqual(flat_row_count(kind, sizes)(prime), flat, (prime, row, sizes))
                if sum(row) < 5:
                    for some in itertools.product(*[kinds_of(size) for size in sizes]):
                        many = steps.count(tuple(step.numbers for step in some))
                        self.assertEqual(step_row_count(kind, some)(prime), many, (prime, row, sizes))

    def test_order_of_sizes_and_steps(self):
        for size in range(7):
            for kind in kinds_of(size):
                for sizes in sizes_of(size):
                    falling = tuple(sorted(sizes, reverse=True))
                    self.assertEqual(row_count(kind, sizes), row_count(kind, falling))
                    self.assertEqual(flat_row_count(kind, sizes), flat_row_count(kind, falling))
                    for steps in list(itertools.product(*[kinds_of(some) for some in sizes]))[::5]:
                        turned = tuple(sorted(steps))
                        self.assertEqual(step_row_count(kind, steps), step_row_count(kind, turned))

    def test_sums_over_steps(self):
        for size in range(7):
            for kind in kinds_of(size):
                for sizes in sizes_of(size)[::2]:
                    total = Poly()
                    for steps in itertools.product(*[kinds_of(some) for some in sizes]):
                        total = total + step_row_count(kind, steps)
                    self.assertEqual(total, row_count(kind, sizes))

    def test_by_the_ring(self):
        for row, sizes in (
            ((3, 2, 2, 1), (2, 3, 1, 2)), ((1,) * 8, (3, 5)), ((4, 2, 2), (2, 2, 2, 2)), ((8,), (1,) * 8)
        ):
            product, flats = KindSum.of(Kind()), KindSum.of(Kind())
            for size in sizes:
                product = product * whole(size)
                flats = flats * KindSum.of(Kind((1,) * size))
            self.assertEqual(row_count(Kind(row), sizes), product[Kind(row)])
            self.assertEqual(flat_row_count(Kind(row), sizes), flats[Kind(row)])
            self.assertEqual(step_row_count(Kind(row), tuple(Kind((1,) * size) for size in sizes)), flats[Kind(row)])

    def test_edges(self):
        none = Kind()
        for call in (row_count, flat_row_count, step_row_count):
            self.assertEqual(call(none, ()), Poly((1,)))
            self.assertEqual(error_of(call, none, (1,)), ("InvalidOperation",))
        for kind in (Kind((9,)), Kind((1,) * 9), Kind((12,)), Kind((5, 4))):
            for call, given in (
                (row_count, (kind.size,)), (flat_row_count, (1,) * kind.size), (step_row_count, (kind,))
            ):
                self.assertEqual(error_of(call, kind, given), ("TooMany", 8))
                self.assertEqual(error_of(call, kind, ()), ("InvalidOperation",))
        self.assertEqual((MAX_ROWS, MAX_STEPPED), (2000, 8))
        self.assertEqual(flat_row_count(Kind((3,)), (2, 1)), Poly())
        self.assertEqual(str(row_count(Kind((8,)), (8,))), "1")

    def test_wrong_arguments(self):
        for call in (row_count, flat_row_count, step_row_count):
            for value in odd_ones(Kind) + [(2, 1), 3]:
                self.assertEqual(error_of(call, value, value), ("InvalidKind",))
        for call in (row_count, flat_row_count):
            for value in odd_ones(tuple) + [
                (), (4,), (2, 2), (3, 0), (4, -1), (0, 3), (True, 2), (2, True), ((3,),), ("3",), [2, 1], 3, (NINES,),
                (10 ** 70,), (1, 1), (None, 3), (Kind((2, 1)),),
            ]:
                self.assertEqual(error_of(call, STEP, value), ("InvalidOperation",), value)
        one, two = Kind((1,)), Kind((2,))
        for value in odd_ones(tuple) + [
            (), (2, 1), (one,), (one, one), (two, two), (STEP, Kind()), (Kind(), STEP), [STEP], STEP, (one, (2,)),
            (one, "[2]"), (STEP, True),
        ]:
            self.assertEqual(error_of(step_row_count, STEP, value), ("InvalidOperation",), value)


class Listing(unittest.TestCase):
    def test_rows(self):
        for prime, row in LISTED:
            group, every = Group(prime, Kind(row)), all_parts(prime, row)
            tables = {frozenset(part): part.table for part in parts(group)}
            for sizes in sizes_of(sum(row)):
                told = sorted(tuple(tables[part] for part in some) for some in rows_told(prime, row, sizes, every))
                got = list(rows_of_parts(group, sizes))
                self.assertTrue(
                    is_like([tuple(part.table for part in some) for some in got], told), (prime, row, sizes)
                )
                self.assertTrue(all(part.group == group for some in got for part in some))
                self.assertTrue(all(is_row_of_parts(group, sizes, some) is True for some in got))

    def test_great_groups(self):
        for prime, row, sizes in (
            (2, (1,) * 8, (7, 1)), (2, (1,) * 8, (1, 7)), (2, (8,), (1,) * 8), (3, (1,) * 5, (3, 2)),
            (7, (1, 1), (1, 1)),
            (2, (1,) * 6, (3, 3)), (2, (3, 3, 2), (2, 4, 2)), (2, (2, 2, 2, 2), (7, 1)), (5, (2, 1), (1, 1, 1)),
            (2, (3, 1, 1, 1, 1, 1), (1, 6, 1)), (2, (2, 2, 2, 2), (8,)),
        ):
            group = Group(prime, Kind(row))
            got = [tuple(part.table for part in some) for some in rows_of_parts(group, sizes)]
            self.assertEqual(len(got), row_count(group.kind, sizes)(prime))
            self.assertEqual(got, sorted(set(got)))
            some = tuple(Part.of_table(group, table) for table in got[len(got) // 2])
            self.assertIs(is_row_of_parts(group, sizes, some), True)

    def test_one_element(self):
        for prime in (2, 7):
            group = Group(prime, Kind())
            self.assertEqual(list(rows_of_parts(group, ())), [()])
            self.assertIs(is_row_of_parts(group, (), ()), True)
            self.assertIs(is_row_of_parts(group, (), (Part(group, ()),)), False)

    def test_many_and_too_many(self):
        for prime, row, sizes, many in (
            (2, (2, 1, 1, 1, 1, 1), (5, 1, 1), 1985), (2, (3, 1, 1, 1, 1, 1), (1, 6, 1), 1985),
        ):
            got = list(rows_of_parts(Group(prime, Kind(row)), sizes))
            self.assertEqual(len(got), many)
        for prime, row, sizes in (
            (2, (2, 2, 1, 1, 1, 1), (1, 6, 1)), (3, (1,) * 4, (1,) * 4), (2, (1,) * 8, (1,) * 8), (2, (1,) * 8, (2, 6)),
            (2, (1,) * 7, (2, 5)),
        ):
            group = Group(prime, Kind(row))
            self.assertGreater(row_count(group.kind, sizes)(prime), 2000)
            self.assertEqual(error_of(next, rows_of_parts(group, sizes)), ("TooMany", 2000))
        self.assertEqual(row_count(Kind((2, 2, 1, 1, 1, 1)), (1, 6, 1))(2), 2049)

    def test_the_first_ones_take_few_steps(self):
        for row, sizes in (((1,) * 5, (2, 3)), ((2, 1, 1, 1), (2, 2, 1)), ((1,) * 8, (7, 1))):
            group = Group(2, Kind(row))
            every = lines_run(lambda: list(rows_of_parts(group, sizes)))
            few = lines_run(lambda: first_of(rows_of_parts(group, sizes), 1))
            self.assertLess(few * 30, every)

    def test_wrong_arguments(self):
        group = Group(2, STEP)
        for value in odd_ones(Group) + [STEP, 2]:
            self.assertEqual(error_of(next, rows_of_parts(value, 5)), ("InvalidGroup",))
            self.assertEqual(error_of(is_row_of_parts, value, 5, ()), ("InvalidGroup",))
        for value in odd_ones(tuple) + [
            (), (4,), (2, 2), (3, 0), (4, -1), (True, 2), ((3,),), ("3",), [2, 1], 3, (NINES,), (10 ** 70,), (1, 1),
        ]:
            generator = rows_of_parts(group, value)
            self.assertEqual(error_of(next, generator), ("InvalidOperation",), value)
            self.assertEqual(error_of(is_row_of_parts, group, value, ()), ("InvalidOperation",), value)


class Judging(unittest.TestCase):
    def test_all_tuples_of_parts(self):
        for prime, row in ((2, (2, 1)), (3, (1, 1)), (2, (1, 1)), (2, (3,))):
            group = Group(prime, Kind(row))
            every = list(parts(group))
            for sizes in sizes_of(sum(row)):
                right = [[part.table for part in some] for some in rows_of_parts(group, sizes)]
                for many in range(len(sizes) + 2 if len(every) < 6 else len(sizes) + 1):
                    for some in itertools.product(every, repeat=many):
                        told = [part.table for part in some] in right
                        self.assertIs(is_row_of_parts(group, sizes, some), told)

    def test_near_rows(self):
        group, other = Group(2, STEP), Group(2, Kind((1, 1, 1)))
        row = first_of(rows_of_parts(group, (1, 1, 1)), 1)[0]
        self.assertIs(is_row_of_parts(group, (1, 1, 1), row), True)
        self.assertIs(
            is_row_of_parts(Group(2, STEP), (1, 1, 1), tuple(Part.of_table(Group(2, STEP), one.table) for one in row)),
            True
        )
        for near in (
            row[:2], row[1:], row[::-1], row + (row[2],), (Part(group, ()),) + row, list(row),
            row[:1] + row[:1] + row[2:],
            (row[0], row[2], row[2]), (row[0].table, row[1], row[2]), row[:2] + (Part(other, other.base),),
            row[:2] + (group,), row[:2] + (None,), (True,) + row[1:],
        ):
            self.assertIs(is_row_of_parts(group, (1, 1, 1), near), False)
        for value in paper_values() + [0, row[0], row[2], (row,)]:
            self.assertIs(is_row_of_parts(group, (1, 1, 1), value), False)
            self.assertIs(is_row_of_parts(group, (3,), value), False)
        self.assertIs(is_row_of_parts(group, (3,), (row[2],)), True)


class NotTrue(unittest.TestCase):
    def test_false_statements(self):
        kind = Kind((1, 1, 1, 1))
        self.assertNotEqual(row_count(kind, (2, 2)), row_count(kind, (2, 1, 1)))
        group = Group(2, STEP)
        kinds = {str(row[0].kind) for row in rows_of_parts(group, (2, 1))}
        self.assertEqual(kinds, {"[2]", "[1 1]"})
        self.assertEqual(flat_row_count(Kind((2,)), (2,)), Poly())
        self.assertEqual(kind_of(2, (2, 1), elements_of(2, (2, 1))), (2, 1))


if __name__ == "__main__":
    unittest.main()
