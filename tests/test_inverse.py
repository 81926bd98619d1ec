"""Inverses, sums below parts, tuples that make a group, and parts beside parts: [12.1] to [12.9]."""

import collections
import itertools
import unittest

from primekinds.chain.inverse import (
    MAX_MADE, MAX_POWER, MAX_SUMMED, beside_count, greatest_parts, inverse, inverse_count, inverted, is_makes_paper,
    makes_paper, making_count, sums_below,
)
from primekinds.group.groups import Group
from primekinds.group.parts import Part, parts
from primekinds.kind.kinds import Kind
from primekinds.maps.maps import map_count
from primekinds.poly.polys import Poly, binomial
from tests.helper import (
    all_parts, elements_of, error_of, groups_up_to, is_like, kind_of, made_by, odd_ones, odd_values, paper_values, plus,
    rest_of, rows_up_to, times,
)

NINES = 10 ** 60 - 1
G, F = Group(2, Kind((2, 1))), Group(2, Kind((1, 1)))
LISTED = groups_up_to(16) + [
    (2, (3, 2)), (2, (2, 2, 1)), (3, (2, 1)), (3, (1, 1, 1)), (5, (1, 1)), (7, (1, 1)), (5, (2,))
]


def sets_of(group):
    """The sets of all parts, in the order of their tables."""
    return [frozenset(part) for part in parts(group)]


def inverses_told(sets):
    """The inverses of all parts in all parts, one after the other, as [12.1] tells."""
    told = {}
    for one in sets:
        for other in sorted(sets, key=len):
            if one == other:
                told[one, other] = 1
            elif one <= other:
                told[one, other] = -sum(told[one, between] for between in sets if one <= between < other)
            else:
                told[one, other] = 0
    return told


class Inverses(unittest.TestCase):
    def test_by_sums(self):
        for prime, row in LISTED:
            some = list(parts(Group(prime, Kind(row))))
            told = inverses_told([frozenset(part) for part in some])
            for one, other in itertools.product(some, repeat=2):
                self.assertTrue(is_like(inverse(one, other), told[frozenset(one), frozenset(other)]), (prime, row))

    def test_other_sides(self):
        for prime, row in LISTED[::2]:
            for one, other in itertools.product(list(parts(Group(prime, Kind(row)))), repeat=2):
                self.assertEqual(inverse(one, other), inverse(other.other_side, one.other_side))

    def test_great_groups(self):
        for row, many in (((1,) * 8, 8), ((2, 2, 2, 2), 4), ((8,), 1), ((4, 3, 1), 3)):
            group = Group(2, Kind(row))
            whole = Part(group, group.base)
            inner = Part(group, tuple(group.times(base, 2) for base in group.base))
            self.assertEqual(inverse(inner, whole), (-1) ** many * 2 ** (many * (many - 1) // 2))
            self.assertEqual(inverse(Part(group, ()), whole), inverse(inner, whole) if max(row) == 1 else 0)
            self.assertEqual((inverse(whole, inner), inverse(inner, inner), inverse(whole, whole)), (0, 1, 1))

    def test_wrong_parts(self):
        part = Part(G, ((1, 1),))
        for value in odd_ones(Part) + [((1, 1), (0, 2)), 2]:
            self.assertEqual(error_of(inverse, value, 5), ("InvalidPart",))
            self.assertEqual(error_of(inverse, part, value), ("InvalidPart",))
            self.assertEqual(error_of(beside_count, value), ("InvalidPart",))
        for other in (Part(F, ()), Part(Group(3, Kind((2, 1))), ()), Part(Group(2, Kind((2, 2))), ())):
            self.assertEqual(error_of(inverse, part, other), ("InvalidPart",))
            self.assertEqual(error_of(inverse, other, part), ("InvalidPart",))
        self.assertEqual(inverse(part, Part(Group(2, Kind((2, 1))), ((1, 1),))), 1)


class Sums(unittest.TestCase):
    def test_by_sets(self):
        for prime, row in LISTED:
            group = Group(prime, Kind(row))
            sets = sets_of(group)
            if len(sets) <= 100:
                numbers = tuple((7 * i * i - 31 * i) % 53 - 20 for i in range(len(sets)))
                told = tuple(sum(x for x, part in zip(numbers, sets) if part <= other) for other in sets)
                self.assertTrue(is_like(sums_below(group, numbers), told), (prime, row))
                self.assertTrue(is_like(inverted(group, told), numbers))
                self.assertEqual(sums_below(group, inverted(group, numbers)), numbers)

    def test_by_inverses(self):
        for prime, row in ((2, (2, 1)), (2, (1, 1, 1)), (3, (2, 1)), (2, (3, 2)), (5, (1, 1))):
            group = Group(prime, Kind(row))
            some = list(parts(group))
            sums = tuple((5 * i * i + 3 * i) % 41 - 9 for i in range(len(some)))
            told = tuple(sum(inverse(one, other) * sums[i] for i, one in enumerate(some)) for other in some)
            self.assertEqual(inverted(group, sums), told)

    def test_long_integers(self):
        self.assertEqual(sums_below(F, (NINES,) * 5), (5 * NINES, 2 * NINES, 2 * NINES, 2 * NINES, NINES))
        self.assertEqual(
            inverted(F, (NINES, -NINES, -NINES, -NINES, NINES)), (6 * NINES, -2 * NINES, -2 * NINES, -2 * NINES, NINES)
        )

    def test_one_element(self):
        group = Group(5, Kind())
        self.assertEqual((sums_below(group, (3,)), inverted(group, (-3,))), ((3,), (-3,)))

    def test_many_and_too_many(self):
        # No group has from 84 to 107 parts.
        for row, many in (((4, 4), 83), ((3, 2, 1), 81), ((4, 3), 52)):
            group = Group(2, Kind(row))
            numbers = tuple(range(many))
            self.assertEqual(inverted(group, sums_below(group, numbers)), numbers)
        for prime, row, many in ((2, (4, 2, 1), 108), (2, (2, 1, 1, 1), 118), (3, (2, 2, 1), 126), (2, (1,) * 6, 2825)):
            group = Group(prime, Kind(row))
            for call in (sums_below, inverted):
                self.assertEqual(error_of(call, group, (0,) * many), ("TooMany", 100))
                for wrong in ((0,) * (many - 1), (0,) * (many + 1), (0,) * (many - 1) + (True,), ()):
                    self.assertEqual(error_of(call, group, wrong), ("InvalidOperation",))
        self.assertEqual(MAX_SUMMED, 100)

    def test_wrong_arguments(self):
        for call in (sums_below, inverted):
            for value in odd_ones(Group) + [Kind((1, 1)), 2]:
                self.assertEqual(error_of(call, value, 5), ("InvalidGroup",))
            for value in odd_ones(tuple) + [
                (), (1,), (1,) * 4, (1,) * 6, [1] * 5, (1, 1, 1, 1, True), (False, 1, 1, 1, 1), (1, 1, 1, 1, None),
                (1, 1, 1, 1, 10 ** 60), (1, 1, 1, 1, (1,)), (1, 1, "1", 1, 1), 5, {1: 1, 2: 1, 3: 1, 4: 1, 5: 1},
                Part(F, F.base), Kind((1, 1, 1, 1, 1)),
            ]:
                self.assertEqual(error_of(call, F, value), ("InvalidOperation",), value)


class Numbers(unittest.TestCase):
    def test_inverse_counts(self):
        for prime, row in LISTED:
            group, zero, found = Group(prime, Kind(row)), Poly(), collections.Counter()
            whole = Part(group, group.base)
            for part in parts(group):
                if part.rest.is_flat:
                    found[part.rest.rank] += inverse(part, whole)
            for many in range(13):
                self.assertTrue(is_like(inverse_count(Kind(row), many)(prime), found[many]), (prime, row, many))
                zero = zero + inverse_count(Kind(row), many)
            self.assertEqual(zero, Poly((1,)) if row == () else Poly())

    def test_told_inverse_counts(self):
        for row in rows_up_to(8) + [(12,), (1,) * 12, (6, 6)]:
            for many in range(13):
                factor = Poly((0,) * (many * (many - 1) // 2) + ((-1) ** many,))
                self.assertEqual(inverse_count(Kind(row), many), factor * binomial(len(row), many))

    def test_making_by_listing(self):
        for prime, row in (
            (2, (1,)), (2, (2,)), (2, (1, 1)), (2, (2, 1)), (3, (1,)), (3, (1, 1)), (2, (1, 1, 1)), (5, (1,)), (2, ())
        ):
            some, kind = elements_of(prime, row), Kind(row)
            for many in range(4):
                if len(some) ** many < 5000:
                    found = collections.Counter(
                        made_by(prime, row, makers) for makers in itertools.product(some, repeat=many)
                    )
                    self.assertEqual(making_count(kind, many)(prime), found[frozenset(some)], (prime, row, many))
                    for part in all_parts(prime, row):
                        inner = Kind(kind_of(prime, row, part))
                        self.assertEqual(making_count(inner, many)(prime), found[part])

    def test_making_by_inverses(self):
        for prime, row in LISTED:
            group = Group(prime, Kind(row))
            whole, some = Part(group, group.base), list(parts(group))
            for many in (0, 1, 2, 3, 5, 12):
                told = sum(inverse(part, whole) * len(part) ** many for part in some)
                self.assertTrue(is_like(making_count(Kind(row), many)(prime), told))
                self.assertEqual(sum(making_count(part.kind, many)(prime) for part in some), group.size ** many)

    def test_told_making_counts(self):
        for row in rows_up_to(7) + [(12,), (1,) * 12, (6, 6), (3, 3, 3, 3)]:
            for many in range(13):
                poly = making_count(Kind(row), many)
                for p in (2, 3, 97):
                    told = p ** (many * (sum(row) - len(row)))
                    for i in range(len(row)):
                        told *= p ** many - p ** i
                    self.assertEqual(poly(p), told)
                self.assertIs(bool(poly), many >= len(row))
        self.assertEqual((str(making_count(Kind(), 0)), str(making_count(Kind(), 12))), ("1", "1"))

    def test_wrong_arguments(self):
        for call in (inverse_count, making_count):
            for value in odd_ones(Kind) + [(2, 1), 3]:
                self.assertEqual(error_of(call, value, -1), ("InvalidKind",))
            for value in odd_values() + (-1, 13, NINES):
                self.assertTrue(is_like(error_of(call, Kind((2, 1)), value), ("InvalidNumber", value)))
        self.assertEqual((MAX_POWER, MAX_MADE), (12, 8))


class Greatest(unittest.TestCase):
    def test_by_listing(self):
        for prime, row in LISTED:
            group = Group(prime, Kind(row))
            sets, whole = sets_of(group), frozenset(group.members())
            told = [part for part in sets if part != whole and not any(part < other < whole for other in sets)]
            got = greatest_parts(group)
            self.assertIsInstance(got, tuple)
            self.assertEqual([frozenset(part) for part in got], told, (prime, row))
            self.assertTrue(all(part.group == group for part in got))
            self.assertEqual(len(got), sum(prime ** i for i in range(len(row))))
            met = whole
            for part in got:
                self.assertEqual(len(part) * prime, group.size)
                met = met & part if isinstance(met, Part) else part
            if got:
                self.assertEqual(set(met), {times(prime, row, one, prime) for one in whole})
            for part in sets:
                self.assertIs(any(part <= frozenset(other) for other in got), part != whole)

    def test_great_groups(self):
        for prime, row in (
            (2, (1,) * 8), (2, (2, 2, 2, 2)), (3, (1,) * 5), (2, (8,)), (2, (3, 2, 1, 1, 1)), (7, (1, 1))
        ):
            got = [part.table for part in greatest_parts(Group(prime, Kind(row)))]
            self.assertEqual(got, sorted(set(got)))
            self.assertEqual(len(got), sum(prime ** i for i in range(len(row))))
        self.assertEqual(greatest_parts(Group(3, Kind())), ())
        for value in odd_ones(Group) + [Kind((1, 1)), 2]:
            self.assertEqual(error_of(greatest_parts, value), ("InvalidGroup",))


def sum_of(prime, row, some, many):
    """The sum of some, each so many times."""
    total = (0,) * len(row)
    for one, number in zip(some, many):
        total = plus(prime, row, total, times(prime, row, one, number))
    return total


class Making(unittest.TestCase):
    def test_papers(self):
        for prime, row in (
            (2, ()), (2, (1,)), (2, (2,)), (2, (1, 1)), (2, (2, 1)), (3, (1, 1)), (2, (3, 1)), (3, (2,))
        ):
            group, some = Group(prime, Kind(row)), elements_of(prime, row)
            for many in range(4):
                for makers in list(itertools.product(some, repeat=many))[::1 if len(some) ** many < 300 else 13]:
                    paper = makes_paper(group, makers)
                    makes = len(made_by(prime, row, makers)) == len(some)
                    self.assertEqual(paper[0], "makes" if makes else "within", (prime, row, makers))
                    self.assertIs(is_makes_paper(group, makers, paper), True)
                    if makes:
                        bound = prime ** max(row, default=0)
                        self.assertTrue(all(0 <= x < bound for line in paper[1] for x in line))
                        self.assertEqual([sum_of(prime, row, makers, line) for line in paper[1]], list(group.base))
                    else:
                        self.assertEqual(len(paper[1]) * prime, len(some))
                        self.assertTrue(set(makers) <= set(paper[1]))

    def test_which_are_taken(self):
        for prime, row in ((2, (2, 1)), (2, (1, 1)), (3, (1, 1)), (2, (2,))):
            group, some = Group(prime, Kind(row)), elements_of(prime, row)
            bound = prime ** row[0]
            lines = list(itertools.product(range(-1, bound + 2), repeat=2))
            for makers in list(itertools.product(some, repeat=2))[::3]:
                for at, base in enumerate(group.base):
                    right = [line for line in lines if sum_of(prime, row, makers, [x % bound for x in line]) == base]
                    paper = makes_paper(group, makers)
                    if paper[0] == "makes":
                        for line in lines:
                            near = paper[1][:at] + (line,) + paper[1][at + 1:]
                            told = line in right and all(0 <= x < bound for x in line)
                            self.assertIs(is_makes_paper(group, makers, ("makes", near)), told, (makers, near))
                for part in parts(group):
                    told = len(part) * prime == group.size and set(makers) <= set(part)
                    self.assertIs(is_makes_paper(group, makers, ("within", part)), told)

    def test_other_groups(self):
        part = Part(G, ((1, 0),))
        for some in (((1, 0),), ((1, 0), (3, 0)), ((2, 0),), ()):
            self.assertIs(is_makes_paper(G, some, ("within", part)), True)
            self.assertIs(is_makes_paper(G, some, ("within", Part(Group(2, Kind((2, 1))), ((1, 0),)))), True)
            for other in (
                Part(Group(3, Kind((2, 1))), ((1, 0),)), Part(F, ((1, 0),)),
                Part(Group(2, Kind((2, 2))), ((1, 0), (0, 2)))
            ):
                self.assertIs(is_makes_paper(G, some, ("within", other)), False)

    def test_values_of_every_sort(self):
        makers, within = ((1, 1), (0, 1)), ((1, 0), (3, 0))
        part, rows = Part(G, ((1, 0),)), ((1, 1), (0, 1))
        self.assertIs(is_makes_paper(G, makers, ("makes", rows)), True)
        self.assertIs(is_makes_paper(G, within, ("within", part)), True)
        for value in paper_values() + [
            ["makes", rows], ("makes", list(rows)), ("makes", ([1, 1], (0, 1))), ("makes", rows, 0), ("makes",), rows,
            ("makes", rows[:1]), ("makes", rows + rows), ("makes", ((1, 1, 0), (0, 1, 0))), ("makes", ((1,), (0,))),
            ("makes", ((True, 1), (0, 1))), ("makes", ((1, 1), (False, 1))), ("makes", ((5, 1), (0, 1))),
            ("makes", ((1, -3), (0, 1))), ("makes", ((1, 10 ** 70), (0, 1))), ("makes", part), ("Makes", rows),
            ("within", rows), ("makes", ((1, 1), (0, None))), ("within", [part]), ("within", part, part), part,
            ["within", part], ("within", part.table), ("within", list(part)), ("within", G), ("makes", ()),
            ("within", Part(G, ((2, 0),))), ("within", Part(G, G.base)),
        ]:
            self.assertIs(is_makes_paper(G, makers, value), False, value)
            self.assertIs(is_makes_paper(G, within, value), False, value)
        self.assertIs(is_makes_paper(G, within, ("within", Part(G, ((2, 1),)))), False)

    def test_edges(self):
        for many in range(9):
            group = Group(7, Kind())
            self.assertEqual(makes_paper(group, ((),) * many), ("makes", ()))
            self.assertIs(is_makes_paper(group, ((),) * many, ("makes", ())), True)
            self.assertIs(is_makes_paper(group, ((),) * many, ("makes", ((0,) * many,))), False)
        great = Group(2, Kind((1,) * 8))
        self.assertEqual(makes_paper(great, great.base)[1], great.base)
        for row in ((2, 2, 2, 2), (8,), (4, 2, 1, 1), (1,) * 8):
            group = Group(2, Kind(row))
            for step in (3, 7, 19, 101):
                some = tuple(elements_of(2, row)[step * k * k % 256] for k in range(8))
                paper = makes_paper(group, some)
                self.assertIs(is_makes_paper(group, some, paper), True)
                self.assertIs(paper[0] == "makes", len(Part(group, some)) == 256)

    def test_wrong_arguments(self):
        for call in (makes_paper, lambda group, some: is_makes_paper(group, some, None)):
            for value in odd_ones(Group) + [Kind((2, 1)), 2]:
                self.assertEqual(error_of(call, value, 5), ("InvalidGroup",))
            for value in odd_ones(tuple) + [
                (1,), (0, 0), ((0, 2),), ((4, 0),), ((0, 0), (0,)), ((1, True),), ([0, 0],), [(0, 0)], ((0, 0),) * 9,
                ((0, 0), None), ((0, 0, 0),), ((-1, 0),), "00", 3, ((10 ** 70, 0),),
            ]:
                self.assertEqual(error_of(call, G, value), ("InvalidElement",), value)
            self.assertNotEqual(error_of(call, G, ((0, 0),) * 8), ("InvalidElement",))


class Beside(unittest.TestCase):
    def test_by_listing(self):
        for prime, row in LISTED:
            some = list(parts(Group(prime, Kind(row))))
            sets = {part.table: set(part) for part in some}
            for part in some:
                told = sum(
                    len(sets[part.table] & other) == 1 and len(part) * len(other) == prime ** sum(row)
                    for other in sets.values()
                )
                self.assertTrue(is_like(beside_count(part), told), (prime, row, part.table))
                joined = sorted(part.kind.numbers + part.rest.numbers, reverse=True)
                self.assertIs(told > 0, tuple(joined) == row)
                if told:
                    self.assertEqual(told, map_count(part.rest, part.kind)(prime))
                self.assertEqual(rest_of(prime, row, sets[part.table]), part.rest.numbers)

    def test_great_groups(self):
        group = Group(2, Kind((1,) * 8))
        for many in range(9):
            self.assertEqual(beside_count(Part(group, group.base[:many])), 2 ** (many * (8 - many)))
        self.assertEqual(beside_count(Part(Group(3, Kind()), ())), 1)


class NotTrue(unittest.TestCase):
    def test_false_statements(self):
        line, flat = Group(2, Kind((2,))), F
        self.assertNotEqual(
            inverse(Part(line, ()), Part(line, line.base)), inverse(Part(flat, ()), Part(flat, flat.base))
        )
        self.assertEqual(makes_paper(flat, ((0, 0), (1, 0)))[0], "within")
        three = Group(2, Kind((1, 1, 1)))
        self.assertEqual(makes_paper(three, three.base)[0], "makes")
        self.assertEqual({makes_paper(three, pair)[0] for pair in itertools.combinations(three.base, 2)}, {"within"})
        self.assertEqual(beside_count(Part(flat, ((1, 0),))), 2)
        one, other = Part(G, ((2, 0),)), Part(G, ((1, 1),))
        self.assertEqual((one.kind == other.rest, beside_count(one), beside_count(other)), (True, 0, 2))


if __name__ == "__main__":
    unittest.main()
