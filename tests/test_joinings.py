"""Joinings: [0.18], [9.1] to [9.7]."""

import collections
import itertools
import unittest

from primekinds.kind.kinds import Kind
from primekinds.maps.joinings import (
    MAX_GLUED, MAX_GLUES, MAX_JOINED, Glue, crossed_count, glue_count, glues, joined_counts, quarter_sum,
)
from primekinds.maps.maps import map_count, undoable_count
from primekinds.poly.polys import Poly
from primekinds.ring.halls import hall
from tests.helper import (
    elements_of, error_of, is_like, kind_by_counts, odd_ones, odd_values, paper_values, plus, rows_up_to,
)

NINES = 10 ** 60 - 1
SMALL = [
    (prime, m, v) for prime in (2, 3, 5, 7) for m, v in itertools.product(rows_up_to(3), repeat=2)
    if prime ** (sum(m) + sum(v)) <= 32 and prime ** sum(min(x, y) for x in m for y in v) <= 64
] + [(2, (3,), (2,)), (2, (2,), (2, 1)), (2, (2, 1), (2,)), (2, (4,), (2,)), (3, (2,), (1,)), (3, (1,), (2,))]


def tables_of(prime, m, v):
    """All least tables, ascending."""
    rows = [list(itertools.product(*[range(prime ** min(x, y)) for y in v])) for x in m]
    return list(itertools.product(*rows))


def plus_told(prime, m, v, table, one, other):
    """The sum of two pairs, as [9.2] tells it: one carry for each place."""
    x, y = [a + b for a, b in zip(one[0], other[0])], plus(prime, v, one[1], other[1])
    for i, number in enumerate(m):
        if x[i] >= prime ** number:
            x[i] -= prime ** number
            y = plus(prime, v, y, table[i])
    return tuple(x), y


class Told:
    """A glue by plain listing: its pairs, and p times each of them."""

    def __init__(self, prime, m, v, table):
        self.zero = ((0,) * len(m), (0,) * len(v))
        self.pairs = list(itertools.product(elements_of(prime, m), elements_of(prime, v)))
        self.leads = {}
        for pair in self.pairs:
            total = self.zero
            for _ in range(prime):
                total = plus_told(prime, m, v, table, total, pair)
            self.leads[pair] = total
        self.prime = prime

    def order_of(self, pair):
        many = 0
        while pair != self.zero:
            pair, many = self.leads[pair], many + 1
        return many

    def kind(self):
        orders = [self.order_of(pair) for pair in self.pairs]
        counts = [sum(order <= k for order in orders) for k in range(max(orders) + 1)]
        return kind_by_counts(self.prime, counts)


class Listed(unittest.TestCase):
    def test_all_glues(self):
        for prime, m, v in SMALL:
            told = tables_of(prime, m, v)
            made = list(glues(prime, Kind(m), Kind(v)))
            self.assertTrue(is_like([glue.table for glue in made], told), (prime, m, v))
            self.assertEqual(glue_count(Kind(m), Kind(v))(prime), len(told))
            found = collections.Counter()
            for glue in made:
                listed = Told(prime, m, v, glue.table)
                found[listed.kind()] += 1
                self.assertEqual(glue.kind.numbers, listed.kind(), (prime, m, v, glue.table))
                self.assertEqual(glue.size, len(listed.pairs))
                self.assertIs(glue.is_split, not any(map(any, glue.table)))
                self.assertTrue(glue.kind.holds(Kind(m)) and glue.kind.holds(Kind(v)))
                joined = Kind(m) + Kind(v)
                self.assertLessEqual(glue.kind.slant, joined.slant)
                self.assertIs(glue.kind == joined, glue.is_split)
            counts = {row: poly(prime) for row, poly in joined_counts(Kind(m), Kind(v)).items()}
            self.assertTrue(is_like(counts, {row: found[row] for row in sorted(found)}), (prime, m, v))

    def test_pairs(self):
        for prime, m, v in SMALL[::3] + [(2, (2, 1), (2,)), (3, (2,), (1,))]:
            for glue in list(glues(prime, Kind(m), Kind(v)))[::5]:
                listed = Told(prime, m, v, glue.table)
                self.assertTrue(is_like(list(glue.members()), listed.pairs))
                for one in listed.pairs:
                    self.assertEqual(glue.order_of(one), listed.order_of(one))
                    total = listed.zero
                    for many in range(6):
                        self.assertTrue(is_like(glue.times(one, many), total))
                        self.assertEqual(glue.plus(glue.times(one, -many), total), listed.zero)
                        total = plus_told(prime, m, v, glue.table, total, one)
                    self.assertEqual(glue.times(one, NINES), glue.times(one, NINES % glue.size))
                for one, other in itertools.product(listed.pairs[::2], listed.pairs[::3]):
                    self.assertEqual(glue.plus(one, other), plus_told(prime, m, v, glue.table, one, other))

    def test_sums(self):
        for prime, m, v in SMALL[::2]:
            made = list(glues(prime, Kind(m), Kind(v)))[:12]
            for one, other in itertools.product(made, repeat=2):
                told = tuple(
                    tuple((x + y) % prime ** min(a, b) for x, y, b in zip(line, more, v))
                    for line, more, a in zip(one.table, other.table, m)
                )
                self.assertTrue(is_like((one + other).table, told))
            for one in made:
                self.assertIs((one + -one).is_split, True)
                self.assertEqual(-(-one), one)

    def test_tables_that_tell_one_glue(self):
        for prime, m, v in ((2, (1,), (3,)), (2, (2, 1), (2, 1)), (3, (1,), (2,)), (2, (1, 1), (2,))):
            for table in itertools.product(elements_of(prime, v), repeat=len(m)):
                glue = Glue(prime, Kind(m), Kind(v), table)
                least = tuple(tuple(x % prime ** min(a, b) for x, b in zip(line, v)) for line, a in zip(table, m))
                self.assertTrue(is_like(glue.table, least))
                self.assertEqual(glue, Glue(prime, Kind(m), Kind(v), least))
                # The group with the table as it stands has the kind of the glue, too.
                self.assertEqual(glue.kind.numbers, Told(prime, m, v, table).kind())


class Counts(unittest.TestCase):
    def test_joined_counts(self):
        for m, v in itertools.product(rows_up_to(8), repeat=2):
            if sum(m) + sum(v) <= 6 or (sum(m) + sum(v) == 8 and len(m) == 2):
                one, other = Kind(m), Kind(v)
                counts = joined_counts(one, other)
                self.assertEqual(list(counts), sorted(counts))
                self.assertEqual(counts, joined_counts(other, one))
                self.assertEqual(sum(poly(5) for poly in counts.values()), glue_count(one, other)(5))
                times = map_count(one, other) * undoable_count(one) * undoable_count(other)
                for row, poly in counts.items():
                    self.assertTrue(poly)
                    self.assertEqual(poly * undoable_count(Kind(row)), hall(Kind(row), one, other) * times)
                told = [row for row in rows_up_to(sum(m) + sum(v)) if hall(Kind(row), one, other)]
                self.assertEqual(list(counts), sorted(told))
        for m, v in (((8,), (1,)), ((5,), (4,)), ((1,) * 12, ()), ((12,), (12,))):
            self.assertEqual(error_of(joined_counts, Kind(m), Kind(v)), ("TooMany", 8))
        self.assertEqual(str(glue_count(Kind((1,) * 12), Kind((1,) * 12))), "p^144")
        self.assertEqual((MAX_JOINED, MAX_GLUED, MAX_GLUES), (8, 256, 2000))

    def test_crossings_listed(self):
        for prime, size in ((2, 1), (2, 2), (2, 3), (3, 2)):
            rows = rows_up_to(size)
            for a, b in itertools.product(rows, repeat=2):
                if sum(a) + sum(b) == size:
                    found = collections.Counter()
                    for table in tables_of(prime, a, b):
                        found.update(parts_of_glue(prime, a, b, table))
                    for c, d in itertools.product(rows, repeat=2):
                        if sum(c) + sum(d) == size:
                            poly = crossed_count(Kind(a), Kind(b), Kind(c), Kind(d))
                            self.assertEqual(poly(prime), found[c, d], (prime, a, b, c, d))

    def test_quarters(self):
        kinds = [Kind(row) for row in rows_up_to(4)]
        for a, b, c, d in itertools.product(kinds, repeat=4):
            crossed = None
            if a.size + b.size != c.size + d.size:
                if a.size + c.size < 3:
                    self.assertEqual((crossed_count(a, b, c, d), quarter_sum(a, b, c, d)), (Poly(), Poly()))
            elif a.size + b.size <= 4 or (a.rank + c.rank == 2 and b.rank + d.rank == 3):
                crossed = crossed_count(a, b, c, d) * undoable_count(c) * undoable_count(d)
                self.assertEqual(crossed, quarter_sum(a, b, c, d) * map_count(a, b))

    def test_quarters_by_halls(self):
        for rows in itertools.product(rows_up_to(2), repeat=4):
            a, b, c, d = [Kind(row) for row in rows]
            if a.size + b.size == c.size + d.size:
                total = Poly()
                for quarter in itertools.product([Kind(row) for row in rows_up_to(2)], repeat=4):
                    x, y, z, w = quarter
                    poly = hall(a, x, y) * hall(b, z, w) * hall(c, x, z) * hall(d, y, w)
                    for kind in quarter:
                        poly = poly * undoable_count(kind)
                    total = total + poly
                self.assertEqual(quarter_sum(a, b, c, d), total)

    def test_great_crossings(self):
        big = Kind((3, 2, 1, 1, 1))
        none = Kind()
        self.assertEqual(crossed_count(big, none, big, none), Poly((1,)))
        self.assertEqual(quarter_sum(big, none, none, big), undoable_count(big))
        for call in (crossed_count, quarter_sum):
            for given in (
                (big, Kind((1,)), none, none), (Kind((9,)), none, none, Kind((9,))), (none, Kind((12,)), big, big),
            ):
                self.assertEqual(error_of(call, *given), ("TooMany", 8))
            self.assertEqual(call(Kind((4,)), Kind((4,)), Kind((9,)), none), Poly())

    def test_not_true(self):
        one, two = Kind((1,)), Kind((2,))
        flat = [glue for glue in glues(3, one, Kind((1, 1))) if glue.kind == Kind((2, 1))]
        multiples = [tuple(tuple(x * k % 3 for x in line) for line in flat[0].table) for k in range(3)]
        self.assertTrue([glue for glue in flat if glue.table not in multiples])
        same = [glue for glue in glues(2, two, two) if glue.kind == Kind((4,))]
        self.assertNotEqual((same[0] + same[1]).kind, Kind((4,)))
        ranks = {glue.kind.rank for glue in glues(2, two, two) if not glue.is_split}
        self.assertIn(2, ranks)
        self.assertNotEqual(joined_counts(two, two)[(4,)], hall(Kind((4,)), two, two))


def parts_of_glue(prime, m, v, table):
    """How many parts of the group of a glue have which rest and kind, by adding pairs to parts."""
    listed = Told(prime, m, v, table)
    found, queue = set(), [frozenset([listed.zero])]
    for part in queue:
        if part in found:
            continue
        found.add(part)
        for maker in listed.pairs:
            if maker not in part:
                more, step = set(part), maker
                while step not in part:
                    more |= {plus_told(prime, m, v, table, step, one) for one in part}
                    step = plus_told(prime, m, v, table, step, maker)
                queue.append(frozenset(more))
    counts = collections.Counter()
    for part in found:
        inner = orders_to_numbers(prime, [listed.order_of(pair) for pair in part])
        orders = []
        for pair in listed.pairs:
            many = 0
            while pair not in part:
                pair, many = listed.leads[pair], many + 1
            orders.append(many)
        counts[orders_to_numbers(prime, orders, len(part)), inner] += 1
    return counts


def orders_to_numbers(prime, orders, times=1):
    """The numbers of the kind of a group with these order numbers of its elements, each of them so many times."""
    return kind_by_counts(prime, [sum(order <= k for order in orders) // times for k in range(max(orders) + 1)])


class Signs(unittest.TestCase):
    def test_in(self):
        glue = Glue(2, Kind((2,)), Kind((1, 1)), ((0, 1),))
        right = set(itertools.product(elements_of(2, (2,)), elements_of(2, (1, 1))))
        for x, y, z in itertools.product(range(-1, 6), range(-1, 3), range(-1, 3)):
            self.assertIs(((x,), (y, z)) in glue, ((x,), (y, z)) in right)
        for value in paper_values() + [
            ((0,), (0, 0), 0), [(0,), (0, 0)], ((0,), [0, 0]), ((True,), (0, 0)), ((0,), (0, False)), ((0,), (0,)),
            ((0, 0), (0, 0)), (0, 0, 0), ((10 ** 70,), (0, 0)),
        ]:
            self.assertIs(value in glue, False, value)
            for call in (
                lambda: glue.plus(value, 5), lambda: glue.plus(((0,), (0, 0)), value), lambda: glue.times(value, "x"),
                lambda: glue.plus(value, ((0,), (0, 0))), lambda: glue.times(value, 1),
                lambda: glue.order_of(value),
            ):
                self.assertEqual(error_of(call), ("InvalidElement",), value)
        for value in odd_values():
            self.assertTrue(is_like(error_of(glue.times, ((0,), (0, 0)), value), ("InvalidNumber", value)))

    def test_equal(self):
        some = ((2, (1,), (1,)), (3, (1,), (1,)), (2, (2,), (1,)), (2, (1,), (2,)), (2, (), (1,)), (2, (1,), ()))
        made = [glue for prime, m, v in some for glue in glues(prime, Kind(m), Kind(v))]
        for i, j in itertools.product(range(len(made)), repeat=2):
            self.assertIs(made[i] == made[j], i == j)
            self.assertIs(made[i] != made[j], i != j)
        for value in odd_ones(Glue) + [((1,),), str(made[1])]:
            self.assertIs(made[1] == value, False)
            self.assertEqual(error_of(lambda: made[1] + value), ("TypeError",))
        for call in (lambda: iter(made[1]), lambda: made[1] - made[1], lambda: made[1] < made[1], lambda: len(made[1])):
            self.assertEqual(error_of(call), ("TypeError",))

    def test_sums_of_unlike_glues(self):
        one = Glue(2, Kind((1,)), Kind((1,)), ((1,),))
        for other in (
            Glue(3, Kind((1,)), Kind((1,)), ((1,),)), Glue(2, Kind((2,)), Kind((1,)), ((1,),)),
            Glue(2, Kind((1,)), Kind((2,)), ((1,),)), Glue(2, Kind(), Kind((1,)), ()),
        ):
            self.assertEqual(error_of(lambda: one + other), ("InvalidTable",))
            self.assertEqual(error_of(lambda: other + one), ("InvalidTable",))

    def test_strings(self):
        self.assertEqual(str(Glue(2, Kind((2,)), Kind((1,)), ((1,),))), "glue of [2] to [1] at 2: [3]")
        self.assertEqual(str(Glue(7, Kind(), Kind(), ())), "glue of [] to [] at 7: []")
        self.assertEqual(str(Glue(3, Kind((1, 1)), Kind((1,)), ((0,), (0,)))), "glue of [1 1] to [1] at 3: [1 1 1]")

    def test_edges(self):
        for prime in (2, 3, 5, 7):
            glue = Glue(prime, Kind(), Kind(), ())
            told = (1, (), Kind(), True, [((), ())], 0)
            got = (glue.size, glue.table, glue.kind, glue.is_split, list(glue.members()), glue.order_of(((), ())))
            self.assertEqual(got, told)
            self.assertEqual([one.table for one in glues(prime, Kind((1,)), Kind())], [((),)])
            self.assertEqual([one.table for one in glues(prime, Kind(), Kind((1,)))], [()])
        self.assertEqual(joined_counts(Kind(), Kind()), {(): Poly((1,))})
        glue = Glue(2, Kind((2, 1)), Kind((3,)), ((5,), (3,)))
        self.assertEqual((glue.prime, glue.rest, glue.inner, glue.table), (2, Kind((2, 1)), Kind((3,)), ((1,), (1,))))
        for name in ("prime", "rest", "inner", "table", "kind", "is_split", "size"):
            with self.assertRaises(AttributeError):
                setattr(glue, name, 5)

    def test_limits(self):
        for prime, m, v in ((2, (8,), ()), (2, (4,), (4,)), (3, (2,), (3,)), (7, (1,), (1,)), (5, (2,), (1,))):
            table = ((0,) * len(v),) * len(m)
            glue = Glue(prime, Kind(m), Kind(v), table)
            self.assertLessEqual(glue.size, 256)
            self.assertEqual(len(list(glue.members())), glue.size)
            longer = Kind((m[0] + 1,) + m[1:])
            self.assertEqual(error_of(Glue, prime, longer, Kind(v), table), ("TooMany", 256))
            self.assertEqual(error_of(next, glues(prime, longer, Kind(v))), ("TooMany", 256))
        self.assertEqual(error_of(next, glues(2, Kind((1,) * 4), Kind((1,) * 4))), ("TooMany", 2000))
        self.assertEqual(error_of(next, glues(2, Kind((1,) * 6), Kind((1,) * 6))), ("TooMany", 256))
        self.assertEqual(error_of(next, glues(3, Kind((1, 1)), Kind((1, 1, 1))))[0], "no error")
        self.assertEqual(error_of(next, glues(2, Kind((1,) * 4), Kind((1,) * 3)))[0], "TooMany")
        self.assertEqual(len(list(glues(2, Kind((1,) * 5), Kind((1, 1))))), 1024)

    def test_wrong_arguments(self):
        kind = Kind((1,))
        for value in odd_values() + (0, 1, 4, 11, -2, NINES):
            self.assertTrue(is_like(error_of(Glue, value, 5, 5, 5), ("InvalidNumber", value)))
            self.assertTrue(is_like(error_of(next, glues(value, 5, 5)), ("InvalidNumber", value)))
        for value in odd_ones(Kind) + [(1,), 1]:
            for rest, inner in ((value, 5), (value, kind), (kind, value)):
                self.assertEqual(error_of(Glue, 2, rest, inner, 5), ("InvalidKind",))
                self.assertEqual(error_of(next, glues(2, rest, inner)), ("InvalidKind",))
                self.assertEqual(error_of(glue_count, rest, inner), ("InvalidKind",))
                self.assertEqual(error_of(joined_counts, rest, inner), ("InvalidKind",))
            for call in (crossed_count, quarter_sum):
                big = Kind((9,))
                for given in ((value, 5, 5, 5), (big, value, 5, 5), (big, big, value, 5), (big, big, big, value)):
                    self.assertEqual(error_of(call, *given), ("InvalidKind",))
                for at in range(4):
                    given = [kind] * at + [value] + [kind] * (3 - at)
                    self.assertEqual(error_of(call, *given), ("InvalidKind",))
        for value in paper_values() + [
            ((2,),), ((0,), (0,)), ((0, 0),), [(0,)], ([0],), ((True,),), (0,), ((-1,),), ((10 ** 70,),), ((),),
        ]:
            self.assertEqual(error_of(Glue, 2, kind, kind, value), ("InvalidTable",), value)
            self.assertEqual(error_of(Glue, 2, Kind((12,)), kind, value), ("InvalidTable",), value)


if __name__ == "__main__":
    unittest.main()
