"""Parts, their least tables, and their other sides: [0.11], [0.16], [4.1] to [4.4]."""

import itertools
import unittest
from math import gcd

from primekinds.base.powers import power_in
from primekinds.group.groups import Group
from primekinds.group.least import least_table, left_numbers
from primekinds.group.parts import MAX_MAKERS, MAX_PARTS, Part, is_table, paired, parts
from primekinds.kind.kinds import Kind
from tests.helper import (
    all_parts, elements_of, error_of, groups_up_to, is_like, kind_of, made_by, odd_ones, odd_values, paper_values, plus,
    rest_of, times,
)

SMALL = groups_up_to(16)
MIDDLE = groups_up_to(32)


def table_told(prime, numbers, part):
    """The least table of a part by the words of [4.2]: the first of its rows that can stand there."""
    tuples = set(part)
    rows = []
    for i, number in enumerate(numbers):
        ahead = [one for one in tuples if not any(one[:i]) and one[i]]
        lead = min([one[i] for one in ahead], default=prime ** number)
        rows.append((i, lead, [one for one in ahead if one[i] == lead] or [(0,) * len(numbers)]))
    leads = [lead for _, lead, _ in rows]
    table = []
    for i, lead, some in rows:
        behind = [one for one in some if all(one[j] < leads[j] for j in range(i + 1, len(numbers)))]
        assert len(behind) == 1
        table.append((0,) * i + (lead,) + behind[0][i + 1:])
    return tuple(table)


def pairing(prime, numbers, one, other):
    height = max(numbers, default=0)
    return sum(x * y * prime ** (height - n) for x, y, n in zip(one, other, numbers)) % prime ** height


def side_of(prime, numbers, part):
    """The other side of a part, by all elements."""
    some = elements_of(prime, numbers)
    return frozenset(one for one in some if all(pairing(prime, numbers, one, x) == 0 for x in part))


def minors(rows, size):
    """The determinants of all squares of some rows and places, of one size."""
    places = list(itertools.combinations(range(len(rows[0])), size))
    return [
        determinant([[row[j] for j in some] for row in lines])
        for lines in itertools.combinations(rows, size) for some in places
    ]


def determinant(rows):
    if not rows:
        return 1
    rest = [[row[:k] + row[k + 1:] for row in rows[1:]] for k in range(len(rows))]
    return sum((-1) ** k * rows[0][k] * determinant(rest[k]) for k in range(len(rows)) if rows[0][k])


class Listing(unittest.TestCase):
    def test_constants(self):
        self.assertEqual((MAX_MAKERS, MAX_PARTS), (16, 3000))

    def test_all_parts(self):
        for prime, row in MIDDLE + [(7, (2,)), (7, (1, 1)), (2, (3, 2, 1)), (2, (4, 2)), (3, (2, 2)), (3, (3, 1))]:
            group = Group(prime, Kind(row))
            if prime ** sum(row) == 32 and row == (1,) * 5:
                continue
            told = {table_told(prime, row, part): part for part in all_parts(prime, row)}
            got = list(parts(group))
            self.assertTrue(is_like([part.table for part in got], sorted(told)), (prime, row))
            for part in got:
                self.assertTrue(is_like(list(part), sorted(told[part.table])))
                self.assertEqual(len(part), len(told[part.table]))

    def test_order(self):
        for prime, row in SMALL:
            got = list(parts(Group(prime, Kind(row))))
            for one, other in zip(got, got[1:]):
                self.assertTrue(one < other and other > one and not other < one and one != other)

    def test_as_many_as_can_be(self):
        for prime, row, many in ((2, (1,) * 6, 2825), (3, (1,) * 5, 2664), (2, (8,), 9), (7, (1, 1), 10)):
            got = [part.table for part in parts(Group(prime, Kind(row)))]
            self.assertEqual((len(got), got), (many, sorted(set(got))))

    def test_too_many(self):
        for prime, row in ((2, (1,) * 7), (2, (1,) * 8), (2, (2, 2, 2, 1, 1)), (2, (3, 1, 1, 1, 1, 1))):
            generator = parts(Group(prime, Kind(row)))
            self.assertEqual(error_of(next, generator), ("TooMany", 3000))
        for value in odd_ones(Group):
            generator = parts(value)
            self.assertEqual(error_of(next, generator), ("InvalidGroup",))

    def test_one_element(self):
        for prime in (2, 7):
            group = Group(prime, Kind())
            got = list(parts(group))
            self.assertEqual([part.table for part in got], [()])
            part = got[0]
            self.assertEqual((len(part), list(part), str(part), part.kind, part.rest), (1, [()], "", Kind(), Kind()))
            self.assertEqual((part.other_side, part | part, part & part, () in part), (part, part, part, True))
            self.assertEqual((part, paired(group, (), ()), is_table(group, ())), (Part(group, ((), ())), 0, True))


class Making(unittest.TestCase):
    def test_makers(self):
        for prime, row in SMALL:
            group, some = Group(prime, Kind(row)), elements_of(prime, row)
            pairs = list(itertools.product(some, repeat=2))
            for makers in [()] + [(one,) for one in some] + pairs[::3]:
                part, told = Part(group, makers), made_by(prime, row, makers)
                self.assertTrue(is_like(list(part), sorted(told)), (prime, row, makers))
                self.assertTrue(is_like(part.table, table_told(prime, row, told)))
                self.assertEqual(part.group, group)

    def test_many_makers(self):
        for prime, row in ((2, (1,) * 8), (2, (3, 2, 2, 1)), (2, (2, 2, 2, 2)), (3, (2, 1, 1, 1)), (2, (5, 3))):
            group, some = Group(prime, Kind(row)), elements_of(prime, row)
            for step in (3, 5, 7, 11, 13):
                for many in (3, 5, 16):
                    makers = tuple(some[step * step * k % len(some)] for k in range(many))
                    self.assertEqual(list(Part(group, makers)), sorted(made_by(prime, row, makers)))
        group = Group(2, Kind((1,) * 8))
        self.assertEqual(len(Part(group, group.base + group.base)), 256)
        self.assertEqual(error_of(Part, group, group.base * 2 + (group.zero,)), ("InvalidPart",))

    def test_wrong_makers(self):
        group = Group(2, Kind((2, 1)))
        for value in odd_ones(Group) + [2, Kind((2, 1))]:
            for call in (Part, Part.of_table, is_table):
                self.assertEqual(error_of(call, value, 5), ("InvalidGroup",))
        for value in odd_values() + (
            0, "()", [(0, 0)], (0, 0), ((0, 0), (4, 0)), ((0, 2),), ((0,),), ([0, 0],), ((1, True),),
        ):
            if value != ():
                self.assertEqual(error_of(Part, group, value), ("InvalidPart",), value)
        self.assertEqual(error_of(Part, group, ((0, 0),) * 17), ("InvalidPart",))
        self.assertEqual(Part(group, ((0, 0),) * 16), Part(group, ()))


class Tables(unittest.TestCase):
    def test_tables_are_taken(self):
        for prime, row in MIDDLE:
            group = Group(prime, Kind(row))
            if len(row) < 5:
                for part in parts(group):
                    self.assertIs(is_table(group, part.table), True)
                    self.assertEqual(Part.of_table(group, part.table), part)

    def test_triangles(self):
        for prime, row in (
            (2, (2, 1)), (2, (1, 1)), (3, (1, 1)), (2, (2, 2)), (2, (3, 1)), (2, (1, 1, 1)), (3, (2, 1)),
        ):
            group = Group(prime, Kind(row))
            right = {part.table for part in parts(group)}
            many = len(row)
            places = [(i, j) for i in range(many) for j in range(i, many)]
            ranges = [range(prime ** row[j] + (i == j)) for i, j in places]
            for entries in itertools.product(*ranges):
                told = dict(zip(places, entries))
                table = tuple(tuple(told.get((i, j), 0) for j in range(many)) for i in range(many))
                self.assertIs(is_table(group, table), table in right, table)
                if table not in right:
                    self.assertEqual(error_of(Part.of_table, group, table), ("InvalidPart",))

    def test_near_tables(self):
        group = Group(2, Kind((3, 2, 1)))
        right = {part.table for part in parts(group)}
        for table in sorted(right):
            for i, j in itertools.product(range(3), repeat=2):
                for entry in (-1, 0, 1, 2, 3, 8, 10 ** 70, None, True, "1", (1,)):
                    line = table[i][:j] + (entry,) + table[i][j + 1:]
                    near = table[:i] + (line,) + table[i + 1:]
                    told = any(is_like(near, other) for other in right)
                    self.assertIs(is_table(group, near), told, near)
            for near in (
                table[:2], table + (table[0],), table[::-1], list(table), (list(table[0]),) + table[1:],
                tuple(line + (0,) for line in table), tuple(line[:2] for line in table), (table,), table[0],
            ):
                self.assertIs(is_table(group, near), False)

    def test_values_of_every_sort(self):
        group = Group(2, Kind((2, 1)))
        for value in paper_values() + [0, 1, "4 0/0 2"]:
            self.assertIs(is_table(group, value), False, value)
            self.assertEqual(error_of(Part.of_table, group, value), ("InvalidPart",))
        self.assertIs(is_table(group, ((4, 0), (0, 2))), True)


class KindAndRest(unittest.TestCase):
    def test_by_listing(self):
        for prime, row in MIDDLE + [
            (3, (2, 1, 1)), (5, (2, 1)), (7, (1, 1)), (2, (3, 2, 1)), (2, (2, 2, 2)), (3, (3, 1)),
        ]:
            for part in list(parts(Group(prime, Kind(row))))[::3 if prime ** sum(row) > 16 else 1]:
                told = set(part)
                self.assertEqual(part.kind.numbers, kind_of(prime, row, told), (prime, row, part.table))
                self.assertEqual(part.rest.numbers, rest_of(prime, row, told), (prime, row, part.table))
                self.assertEqual(part.kind.size + part.rest.size, sum(row))

    def test_great_groups(self):
        for prime, row in (
            (2, (4, 3, 1)), (2, (8,)), (2, (2, 2, 2, 2)), (2, (1,) * 8), (3, (3, 2)), (5, (3,)), (2, (4, 4)),
        ):
            group, some = Group(prime, Kind(row)), elements_of(prime, row)
            for step in (5, 23, 77):
                part = Part(group, tuple(some[::step][1:5]))
                self.assertEqual(part.kind.numbers, kind_of(prime, row, set(part)))
                self.assertEqual(part.rest.numbers, rest_of(prime, row, set(part)))
        whole = Part(group, group.base)
        self.assertEqual((whole.kind, whole.rest), (group.kind, Kind()))

    def test_kinds_that_rows_leave(self):
        # The products of the first numbers, the least one first, are the common divisors of all minors of a size.
        for prime, most in ((2, 4), (3, 3), (5, 2)):
            for seed in range(150):
                many = seed % 3 + 2
                numbers = [(seed * 7 + 11 * k * k + 3 * k * seed) % 17 % (prime * prime) for k in range(many * many)]
                some = [numbers[many * i:many * i + many] for i in range(many)]
                # Rows with the greatest power at one place and 0 elsewhere bound what is left.
                bounds = [[prime ** most * (i == j) for j in range(many)] for i in range(many)]
                common = [gcd(*minors(some + bounds, size)) for size in range(many + 1)]
                told = [power_in(high // low, prime, 99) for low, high in zip(common, common[1:])]
                table = least_table((prime ** most,) * many, [tuple(row) for row in some])
                self.assertEqual(left_numbers(prime, table, most), tuple(n for n in told[::-1] if n))
                if power_in(minors(some, many)[0], prime, most + 1) <= most:
                    self.assertEqual(left_numbers(prime, some, most), tuple(n for n in told[::-1] if n))

    def test_what_is_not_true(self):
        # Two parts of one kind with unlike rests, so that no undoable own map leads the one to the other.
        group = Group(2, Kind((2, 1)))
        rests = {str(part.rest) for part in parts(group) if part.kind == Kind((1,))}
        self.assertEqual(rests, {"[2]", "[1 1]"})


class Sides(unittest.TestCase):
    def test_pairings(self):
        for prime, row in SMALL + [(2, (3, 2)), (3, (2, 1)), (7, (1, 1))]:
            group, some = Group(prime, Kind(row)), elements_of(prime, row)
            for one, other in itertools.product(some, repeat=2):
                self.assertTrue(is_like(paired(group, one, other), pairing(prime, row, one, other)))
                self.assertEqual(paired(group, one, other), paired(group, other, one))
            for one, two, other in itertools.product(some[:5], some[-5:], some):
                total = paired(group, one, other) + paired(group, two, other)
                self.assertEqual(paired(group, plus(prime, row, one, two), other), total % prime ** max(row, default=0))

    def test_wrong_elements(self):
        group = Group(2, Kind((2, 1)))
        for value in odd_ones(Group):
            self.assertEqual(error_of(paired, value, 5, 5), ("InvalidGroup",))
        for value in odd_values() + ((4, 0), (0,), [0, 0], (1, True)):
            self.assertEqual(error_of(paired, group, value, (9, 9)), ("InvalidElement",))
            self.assertEqual(error_of(paired, group, (0, 0), value), ("InvalidElement",))

    def test_other_sides(self):
        for prime, row in SMALL + [(2, (3, 2)), (2, (2, 2, 1)), (3, (2, 1)), (3, (1, 1, 1)), (5, (1, 1)), (7, (1, 1))]:
            for part in parts(Group(prime, Kind(row))):
                side = part.other_side
                self.assertEqual(list(side), sorted(side_of(prime, row, set(part))), (prime, row, part.table))
                self.assertEqual((side.other_side, side.kind, side.rest), (part, part.rest, part.kind))

    def test_meets_and_sums(self):
        for prime, row in (
            (2, (2, 1)), (2, (1, 1, 1)), (2, (2, 2)), (2, (3, 1)), (3, (1, 1)), (3, (2, 1)), (5, (1, 1)),
        ):
            got = list(parts(Group(prime, Kind(row))))
            for one, other in itertools.product(got, repeat=2):
                met, made = one & other, one | other
                self.assertEqual(list(met), sorted(set(one) & set(other)))
                self.assertEqual(list(made), sorted(made_by(prime, row, list(one) + list(other))))
                self.assertEqual(met.other_side, one.other_side | other.other_side)
                self.assertEqual(made.other_side, one.other_side & other.other_side)
                self.assertIs(one.holds(other), set(other) <= set(one))
                self.assertIs(one == other, one.table == other.table)


class Signs(unittest.TestCase):
    def test_in(self):
        for prime, row in SMALL:
            for part in parts(Group(prime, Kind(row))):
                told = set(part)
                self.assertEqual([one for one in elements_of(prime, row) if one in part], sorted(told))
        part = Part(Group(2, Kind((2, 1))), ((1, 1),))
        for value in odd_values() + (
            (5, 1), (True, True), (1, True), [1, 1], (1,), (1, 1, 0), "11", (1, 10 ** 70), (-3, 1),
        ):
            self.assertIs(value in part, False)

    def test_order_of_unlike_groups(self):
        made = [
            part for prime, row in ((2, ()), (2, (1,)), (2, (1, 1)), (2, (2,)), (3, ()), (3, (1, 1)), (5, (2,)))
            for part in parts(Group(prime, Kind(row)))
        ]
        keys = [(part.group.prime, part.group.kind.numbers, part.table) for part in made]
        for i, j in itertools.product(range(len(made)), repeat=2):
            self.assertIs(made[i] < made[j], keys[i] < keys[j])
            self.assertIs(made[i] == made[j], i == j)
            self.assertIs(made[i] != made[j], i != j)
        self.assertEqual(sorted(made[::-1]), made)

    def test_strings(self):
        self.assertEqual(str(Part(Group(2, Kind((2, 1))), ((1, 1),))), "1 1/0 2")
        self.assertEqual(str(Part(Group(7, Kind((2,))), ())), "49")
        for part in parts(Group(2, Kind((2, 1, 1)))):
            self.assertEqual(str(part), "/".join(" ".join(map(str, line)) for line in part.table))

    def test_other_groups(self):
        part = Part(Group(2, Kind((2, 1))), ((1, 1),))
        same = Part(Group(2, Kind((2, 1))), ((3, 1),))
        self.assertEqual((part | same, part & same, part.holds(same), part == same), (part, part, True, True))
        for prime, row in ((2, (1, 1)), (3, (2, 1)), (2, (2, 1, 1)), (2, ())):
            other = Part(Group(prime, Kind(row)), ())
            for call in (lambda: part | other, lambda: part & other, lambda: part.holds(other)):
                self.assertEqual(error_of(call), ("InvalidPart",))
            self.assertIs(part == other, False)
        for value in odd_ones(Part) + [1, part.table, "1 1/0 2", list(part)]:
            self.assertIs(part == value, False)
            self.assertIs(part != value, True)
            self.assertEqual(error_of(part.holds, value), ("InvalidPart",))
            for call in (lambda: part | value, lambda: part & value, lambda: part < value, lambda: part + value):
                self.assertEqual(error_of(call), ("TypeError",))

    def test_nothing_changes(self):
        part, other = Part(Group(2, Kind((2, 1))), ((1, 1),)), Part(Group(2, Kind((2, 1))), ((2, 0),))
        told = (part.table, list(part), str(part))
        for call in (lambda: part | other, lambda: part & other, lambda: part.other_side, lambda: part.kind):
            self.assertEqual(call(), call())
            self.assertEqual((part.table, list(part), str(part)), told)
        for name in ("group", "table", "kind", "rest", "other_side"):
            with self.assertRaises(AttributeError):
                setattr(part, name, 5)


if __name__ == "__main__":
    unittest.main()
