"""Tables, their plain tables and left kinds, and how many leave which kind: [13.1] to [13.4]."""

import itertools
import math
import unittest

from primekinds.base.wholes import PRIMES
from primekinds.group.groups import Group
from primekinds.group.parts import Part
from primekinds.kind.kinds import Kind, kinds_of
from primekinds.poly.polys import Poly
from primekinds.table.tables import MAX_LEFT, MAX_SIDE, Table, alike_paper, is_alike_paper, left_count
from tests.helper import error_of, is_like, odd_ones, odd_values, paper_values, rows_up_to

NINES = 10 ** 60 - 1
SHAPES = [(n, m) for n in range(1, 5) for m in range(1, 5)]


def determinant(rows):
    """The determinant, by the first row."""
    if not rows:
        return 1
    rest = [[row[:k] + row[k + 1:] for row in rows[1:]] for k in range(len(rows))]
    return sum((-1) ** k * rows[0][k] * determinant(rest[k]) for k in range(len(rows)))


def minors(rows, size):
    """The determinants of all squares of some rows and columns."""
    return [
        determinant([tuple(row[j] for j in some) for row in lines])
        for lines in itertools.combinations(rows, size) for some in itertools.combinations(range(len(rows[0])), size)
    ]


def power_of_prime(prime, number, most):
    """How often the prime divides, at most so often, as for 0."""
    return next((k for k in range(most) if number % prime ** (k + 1)), most)


def powers_told(prime, many, rows):
    """The integers a of [13.2], by minors: those of one size have the least first powers added up as common power."""
    side = min(len(rows), len(rows[0]))
    # With many more powers of the prime from corner to corner all sums stay below the bound of what a minor tells.
    bounds = [tuple(prime ** many * (i == j) for j in range(len(rows[0]))) for i in range(len(rows[0]))]
    every = list(rows) + bounds
    sums = [power_of_prime(prime, math.gcd(*minors(every, size)), 99) for size in range(len(rows[0]) + 1)]
    return [high - low for low, high in zip(sums, sums[1:])][:side]


def product(modulus, one, other):
    return tuple(
        tuple(
            sum(row[k] * other[k][j] for k in range(len(other))) % modulus for j in range(len(other[0]))
        ) for row in one
    )


def unit(many):
    return tuple(tuple(int(i == j) for j in range(many)) for i in range(many))


def some_tables():
    """Tables of all shapes, with small and great primes and integers."""
    made = []
    for seed in range(260):
        prime = (2, 3, 2, 5, 97)[seed % 5]
        n, m = SHAPES[seed * 7 % len(SHAPES)]
        many = seed % (12 // max(n, m)) + 1
        factor = (1, prime, prime * prime, 0, 1)[seed // 5 % 5]
        rows = [
            [
                (seed * 31 + 17 * i * i + 11 * i * j + 5 * j * seed) % 1009 * (
                    factor if (i + j + seed) % 3 else 1
                ) for j in range(m)
            ]
            for i in range(n)
        ]
        made.append(Table(prime, many, tuple(map(tuple, rows))))
    return made


def all_tables(prime, many, n, m):
    """All tuples of rows with integers below the power of the prime."""
    lines = list(itertools.product(range(prime ** many), repeat=m))
    return itertools.product(lines, repeat=n)


class Making(unittest.TestCase):
    def test_entries(self):
        table = Table(2, 2, ((-1, 5, NINES), (4, -NINES, 0)))
        self.assertTrue(is_like(table.rows, ((3, 1, NINES % 4), (0, -NINES % 4, 0))))
        self.assertTrue(is_like((table.prime, table.exponent, len(table), list(table)), (2, 2, 2, list(table.rows))))
        self.assertEqual(Table(97, 12, ((NINES,),)).rows, ((NINES % 97 ** 12,),))
        self.assertEqual(str(Table(2, 2, ((1, 0), (2, 3)))), "1 0/2 3 modulo 2^2")
        self.assertEqual(str(Table(97, 1, ((-1,),))), "96 modulo 97^1")
        self.assertEqual((MAX_SIDE, MAX_LEFT), (4, 12))
        for name in ("prime", "exponent", "rows", "left", "is_turning"):
            with self.assertRaises(AttributeError):
                setattr(table, name, 5)

    def test_limits(self):
        for n, m in SHAPES:
            rows = ((1,) * m,) * n
            for many in range(1, 13):
                got = error_of(Table, 2, many, rows)
                if many * max(n, m) > 12:
                    self.assertEqual(got, ("TooMany", 12))
                else:
                    self.assertEqual(got[1].rows, rows)
        for prime in PRIMES:
            self.assertEqual(Table(prime, 12, ((prime,),)).left, Kind((1,)))

    def test_wrong_arguments(self):
        rows = ((1, 0), (0, 1))
        for value in odd_values() + (0, 1, 4, 91, 101, -2, NINES):
            self.assertTrue(is_like(error_of(Table, value, 0, 5), ("InvalidNumber", value)))
        for value in odd_values() + (0, 13, -1, NINES):
            self.assertTrue(is_like(error_of(Table, 2, value, 5), ("InvalidNumber", value)))
        for value in odd_values() + (
            1, ((1, 0), (0,)), ((),), ((), ()), ((1,),) * 5, ((1,) * 5,), [(1,)], ([1],), ((True,),), ((1, None),),
            ((1, "1"),),
            ((1,), 1), ((10 ** 60,),), ((-10 ** 60,),), (((1,),),), "1", {1: (1,)}, ((1,), (1, 2)), Table(2, 1, rows),
        ):
            self.assertEqual(error_of(Table, 2, 12, value), ("InvalidTable",), value)


class Plain(unittest.TestCase):
    def test_plain_tables_by_minors(self):
        for table in some_tables():
            prime, many, rows = table.prime, table.exponent, table.rows
            powers = powers_told(prime, many, rows)
            self.assertEqual(powers, sorted(powers))
            told = tuple(
                tuple(
                    prime ** powers[i] % prime ** many if i == j else 0 for j in range(len(rows[0]))
                ) for i in range(len(rows))
            )
            self.assertTrue(is_like(table.plain().rows, told), (prime, many, rows))
            self.assertEqual((table.plain().prime, table.plain().exponent), (prime, many))
            left = [many] * (len(rows[0]) - len(powers)) + powers[::-1]
            self.assertEqual(table.left.numbers, tuple(number for number in left if number))
            self.assertEqual(table.plain().plain(), table.plain())

    def test_turnings(self):
        for table in some_tables():
            left, right = table.turnings()
            for turning, many in ((left, len(table.rows)), (right, len(table.rows[0]))):
                self.assertIs(turning.is_turning, True)
                self.assertEqual((turning.prime, turning.exponent), (table.prime, table.exponent))
                self.assertEqual({len(turning.rows), len(turning.rows[0])}, {many})
                self.assertTrue(determinant(turning.rows) % table.prime)
            modulus = table.prime ** table.exponent
            told = product(modulus, product(modulus, left.rows, table.rows), right.rows)
            self.assertEqual(table.plain().rows, told)
            self.assertEqual(left * table * right, table.plain())

    def test_which_are_turnings(self):
        for prime, many, n in ((2, 1, 2), (2, 2, 2), (3, 1, 2), (2, 1, 3), (2, 12, 1), (5, 2, 1)):
            for rows in list(all_tables(prime, many, n, n))[::1 if n < 3 else 3]:
                table = Table(prime, many, rows)
                told = determinant(rows) % prime != 0
                self.assertIs(table.is_turning, told)
                if told:
                    back = ~table
                    self.assertEqual(((back * table).rows, (table * back).rows), (unit(n), unit(n)))
                else:
                    self.assertEqual(error_of(lambda: ~table), ("Refused", ("turning",)))
        for table in some_tables():
            if len(table.rows) != len(table.rows[0]):
                self.assertIs(table.is_turning, False)
                self.assertEqual(error_of(lambda: ~table), ("Refused", ("turning",)))

    def test_left_kinds_by_groups(self):
        for prime, many, n, m in (
            (2, 2, 2, 2), (2, 1, 3, 2), (2, 1, 2, 3), (3, 1, 2, 2), (2, 3, 1, 2), (2, 2, 1, 3), (3, 2, 2, 1)
        ):
            group = Group(prime, Kind((many,) * m))
            for rows in list(all_tables(prime, many, n, m))[::1 if n * m * many < 8 else 7]:
                self.assertEqual(Table(prime, many, rows).left, Part(group, rows).rest)


class Signs(unittest.TestCase):
    def test_products(self):
        made = some_tables()
        many = 0
        for one, other in itertools.product(made[::3], made):
            fits = (one.prime, one.exponent, len(one.rows[0])) == (other.prime, other.exponent, len(other.rows))
            if fits:
                many += 1
                told = product(one.prime ** one.exponent, one.rows, other.rows)
                self.assertTrue(is_like((one * other).rows, told))
            else:
                self.assertEqual(error_of(lambda: one * other), ("InvalidTable",))
        self.assertGreater(many, 100)

    def test_operands_of_other_kinds(self):
        table = Table(2, 2, ((1, 0), (0, 1)))
        for value in odd_ones(Table) + [((1, 0), (0, 1)), 2, 1.5]:
            self.assertEqual(error_of(lambda: table * value), ("TypeError",))
            self.assertIs(table == value, False)
            self.assertIs(table != value, True)
        for call in (lambda: table + table, lambda: -table, lambda: table < table, lambda: table - table):
            self.assertEqual(error_of(call), ("TypeError",))

    def test_equal(self):
        made = [
            Table(2, 2, ((1, 0),)), Table(2, 2, ((1,), (0,))), Table(2, 3, ((1, 0),)), Table(3, 2, ((1, 0),)),
            Table(2, 2, ((1, 0), (0, 0))), Table(2, 2, ((0, 1),)), Table(2, 2, ((1,),)),
        ]
        for i, j in itertools.product(range(len(made)), repeat=2):
            self.assertIs(made[i] == made[j], i == j)
        self.assertEqual(Table(2, 2, ((5, -4),)), made[0])


class Alike(unittest.TestCase):
    def test_papers(self):
        for table in some_tables():
            prime, many, rows = table.prime, table.exponent, table.rows
            others = [
                table.plain(), Table(prime, many, rows[::-1]), Table(prime, many, tuple(row[::-1] for row in rows)),
                Table(prime, many, tuple(tuple(prime * x for x in row) for row in rows)),
                Table(prime, many, tuple(tuple(x + i for i, x in enumerate(row)) for row in rows)),
            ]
            for other in others:
                paper = alike_paper(table, other)
                self.assertIs(is_alike_paper(table, other, paper), True)
                if table.left == other.left:
                    self.assertEqual(paper[0], "turned")
                    self.assertTrue(paper[1].is_turning and paper[2].is_turning)
                    self.assertEqual(paper[1] * table * paper[2], other)
                    self.assertIs(is_alike_paper(table, other, ("kinds", table.left, other.left)), False)
                else:
                    self.assertEqual(paper, ("kinds", table.left, other.left))
                    self.assertIs(is_alike_paper(other, table, paper), False)

    def test_which_are_taken(self):
        turnings = [
            Table(2, 1, rows) for rows in all_tables(2, 1, 2, 2) if determinant(rows) % 2
        ]
        every = [Table(2, 1, rows) for rows in all_tables(2, 1, 2, 2)]
        for one, other in itertools.product(every, repeat=2):
            right = 0
            for left, turning in itertools.product(every, repeat=2):
                told = left in turnings and turning in turnings and left * one * turning == other
                right += told
                self.assertIs(is_alike_paper(one, other, ("turned", left, turning)), told)
            self.assertIs(right > 0, one.left == other.left)

    def test_other_shapes(self):
        one, other = Table(2, 2, ((1, 0, 2), (0, 2, 0))), Table(2, 2, ((0, 2, 0), (1, 0, 2)))
        left, right = Table(2, 2, ((0, 1), (1, 0))), Table(2, 2, unit(3))
        self.assertIs(is_alike_paper(one, other, ("turned", left, right)), True)
        for value in (
            ("turned", right, left), ("turned", left, left), ("turned", right, right),
            ("turned", left, Table(2, 3, unit(3))),
            ("turned", Table(3, 2, ((0, 1), (1, 0))), right), ("turned", left), ("turned", left, right, 0),
            ["turned", left, right], ("turned", left.rows, right), ("turned", left, right.rows), ("turned", left, None),
            ("turned", Table(2, 2, ((0, 1),)), right), ("turned", Table(2, 2, ((0, 2), (1, 0))), right),
            ("turned", left, Table(2, 2, unit(4))), ("turned", True, right), ("Turned", left, right),
        ):
            self.assertIs(is_alike_paper(one, other, value), False, value)

    def test_values_of_every_sort(self):
        one, other = Table(2, 2, ((1, 1), (1, 3))), Table(2, 2, ((2, 0), (0, 2)))
        kinds = (Kind((1,)), Kind((1, 1)))
        self.assertIs(is_alike_paper(one, other, ("kinds", *kinds)), True)
        for value in paper_values() + [
            ("kinds", *kinds[::-1]), ("kinds", kinds[0], kinds[0]), ("kinds", kinds[0].numbers, kinds[1]),
            ("kinds", kinds[0], "[1 1]"), ("kinds", kinds), ("kinds", *kinds, 0), ["kinds", *kinds], ("Kinds", *kinds),
            ("kinds", kinds[0], Kind()), ("kinds", True, kinds[1]), ("kinds", one, other),
        ]:
            self.assertIs(is_alike_paper(one, other, value), False, value)
            self.assertIs(is_alike_paper(one, one, value), False, value)

    def test_wrong_tables(self):
        one = Table(2, 2, ((1, 1), (1, 3)))
        for call in (alike_paper, lambda *given: is_alike_paper(*given, None)):
            for value in odd_ones(Table) + [one.rows, 2]:
                self.assertEqual(error_of(call, value, one), ("InvalidTable",))
                self.assertEqual(error_of(call, one, value), ("InvalidTable",))
            for other in (
                Table(3, 2, one.rows), Table(2, 3, one.rows), Table(2, 2, ((1, 1),)), Table(2, 2, ((1,), (1,))),
                Table(2, 2, ((1, 1, 1), (1, 1, 1))), Table(2, 2, unit(3)),
            ):
                self.assertEqual(error_of(call, one, other), ("InvalidTable",))


class Counts(unittest.TestCase):
    def test_by_listing(self):
        for prime, many, n, m in (
            (2, 1, 1, 1), (2, 2, 1, 1), (2, 1, 2, 2), (2, 2, 2, 2), (3, 1, 2, 2), (2, 1, 3, 2), (2, 1, 2, 3),
            (2, 1, 3, 3),
            (3, 2, 1, 2), (2, 3, 1, 2), (2, 3, 2, 1), (3, 2, 2, 1), (5, 1, 2, 1), (2, 12, 1, 1), (2, 1, 1, 4),
            (2, 1, 4, 1),
        ):
            found = {}
            for rows in all_tables(prime, many, n, m):
                numbers = Table(prime, many, rows).left.numbers
                found[numbers] = found.get(numbers, 0) + 1
            for row in rows_up_to(many * m):
                poly = left_count(n, m, many, Kind(row))
                self.assertIsInstance(poly, Poly)
                self.assertTrue(is_like(poly(prime), found.get(row, 0)), (prime, many, n, m, row))

    def test_sums(self):
        for n, m in SHAPES:
            for many in range(1, 13):
                if many * m <= 12:
                    total = Poly()
                    for size in range(many * m + 1):
                        for kind in kinds_of(size):
                            total = total + left_count(n, m, many, kind)
                    self.assertEqual(total, Poly((1,)).raised(many * n * m))

    def test_edges(self):
        for n, m, many, row in (
            (2, 2, 2, (1, 1, 1)), (2, 2, 2, (3,)), (1, 1, 12, (1, 1)), (4, 1, 11, (12,)), (1, 3, 1, (2,)),
            (2, 1, 4, (1,) * 12),
        ):
            self.assertEqual(left_count(n, m, many, Kind(row)), Poly())
        self.assertEqual(left_count(4, 1, 12, Kind((12,))), Poly((1,)))
        self.assertEqual(str(left_count(1, 2, 1, Kind())), "0")
        self.assertEqual(left_count(1, 4, 3, Kind((3, 3, 3, 3))), Poly((1,)))
        self.assertEqual(left_count(4, 1, 12, Kind()).degree, 48)

    def test_wrong_arguments(self):
        kind = Kind((1,))
        for value in odd_values() + (0, 5, -1, NINES):
            self.assertTrue(is_like(error_of(left_count, value, 9, 99, 5), ("InvalidNumber", value)))
            self.assertTrue(is_like(error_of(left_count, 4, value, 99, 5), ("InvalidNumber", value)))
        for value in odd_values() + (0, 13, -1, NINES):
            self.assertTrue(is_like(error_of(left_count, 4, 4, value, 5), ("InvalidNumber", value)))
        for value in odd_ones(Kind) + [(1,), 1]:
            self.assertEqual(error_of(left_count, 4, 4, 12, value), ("InvalidKind",))
        for m, many in ((4, 4), (3, 5), (2, 7), (4, 12)):
            self.assertEqual(error_of(left_count, 1, m, many, kind), ("TooMany", 12))
            self.assertEqual(error_of(left_count, 1, m, many, Kind((1,) * 12)), ("TooMany", 12))
        self.assertNotEqual(error_of(left_count, 4, 1, 12, kind)[0], "TooMany")


class NotTrue(unittest.TestCase):
    def test_equal_determinants(self):
        one, other = Table(2, 2, ((2, 0), (0, 2))), Table(2, 2, ((1, 0), (0, 0)))
        self.assertEqual(determinant(one.rows) % 4, determinant(other.rows) % 4)
        self.assertEqual(alike_paper(one, other)[0], "kinds")


if __name__ == "__main__":
    unittest.main()
