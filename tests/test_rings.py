"""The ring of kinds: [0.17], [7.1] to [7.9]."""

import collections
import itertools
import unittest

from primekinds.kind.kinds import Kind, kinds_of
from primekinds.poly.polys import Poly
from primekinds.ring.halls import hall, pairs_at_one
from primekinds.ring.rings import MAX_RING, KindSum, few_rows, in_flats, of_flats, signed_flat, whole
from tests.helper import all_parts, error_of, is_like, kind_of, odd_ones, odd_values, rest_of, rows_up_to

NINES = 10 ** 60 - 1
ONE, P = Poly((1,)), Poly((0, 1))
UNIT = KindSum.of(Kind())


def of(*row):
    return KindSum.of(Kind(row))


def some_sums():
    """Sums of kinds of sizes up to 3, some of them with several terms."""
    return [of(*row) for row in rows_up_to(3)] + [
        KindSum(), UNIT * -2, of(2) - of(1, 1) * P, of(1) * Poly((1, 1)) + of(2, 1), whole(2) + whole(1) * 3,
        UNIT + of(3) * Poly((0, 0, -1)),
    ]


def product_by_halls(one, other):
    """The terms of a product by the counts of parts by kind and rest."""
    found = collections.defaultdict(Poly)
    for (m, x), (v, y) in itertools.product(one.terms.items(), other.terms.items()):
        for kind in kinds_of(sum(m) + sum(v)):
            found[kind.numbers] = found[kind.numbers] + x * y * hall(kind, Kind(m), Kind(v))
    return {row: found[row] for row in sorted(found) if found[row]}


class Making(unittest.TestCase):
    def test_terms(self):
        told = {(1, 1): ONE, (): P, (2,): Poly(), (8,): Poly((0, -3))}
        value = KindSum(told)
        self.assertTrue(is_like(value.terms, {(): P, (1, 1): ONE, (8,): Poly((0, -3))}))
        self.assertEqual(list(told), [(1, 1), (), (2,), (8,)])
        told[(1,)] = ONE
        value.terms.clear()
        self.assertEqual((len(value), KindSum().terms, KindSum({}).terms, MAX_RING), (3, {}, {}, 8))
        every = KindSum({row: ONE for row in rows_up_to(8)})
        self.assertTrue(is_like(every.terms, {row: ONE for row in sorted(rows_up_to(8))}))

    def test_of(self):
        for row in rows_up_to(8):
            self.assertTrue(is_like(KindSum.of(Kind(row)).terms, {row: ONE}))
        for row in ((9,), (8, 1), (1,) * 9, (12,)):
            self.assertEqual(error_of(KindSum.of, Kind(row)), ("TooMany", 8))
        for value in odd_ones(Kind) + [(2, 1), "[1]", 2]:
            self.assertEqual(error_of(KindSum.of, value), ("InvalidKind",))

    def test_wrong_terms(self):
        for value in odd_ones(dict, None.__class__) + [
            0, "1", [((1,), ONE)], (((1,), ONE),), {(9,): ONE}, {(5, 4): ONE}, {(1, 2): ONE}, {(0,): ONE},
            {(True,): ONE},
            {(2, True): ONE}, {1: ONE}, {"[1]": ONE}, {None: ONE}, {(1,): 1}, {(1,): None}, {(1,): "p"}, {(1,): True},
            {(1,): ONE, (2,): 0}, {(1,): ONE, (NINES,): ONE}, {((1,),): ONE}, {(1,) * 9: ONE}, {(1.0,): ONE},
            {(-1,): ONE},
        ]:
            self.assertEqual(error_of(KindSum, value), ("InvalidOperation",), value)
        for value in odd_ones(Poly):
            self.assertEqual(error_of(KindSum, {(1,): value}), ("InvalidOperation",), value)
        self.assertEqual(KindSum(None), KindSum())


class Sums(unittest.TestCase):
    def test_term_by_term(self):
        for one, other in itertools.product(some_sums(), repeat=2):
            for row in rows_up_to(3):
                x, y = one.terms.get(row, Poly()), other.terms.get(row, Poly())
                kind = Kind(row)
                self.assertEqual((one + other)[kind], x + y)
                self.assertEqual((one - other)[kind], x - y)
                self.assertEqual((-one)[kind], -x)
                self.assertEqual((one * Poly((2, -1)))[kind], x * Poly((2, -1)))
                self.assertEqual((one * 10 ** 70)[kind], x * 10 ** 70)
            for value in (one + other, one - other, -one, one * 0, one * Poly(), one * -1):
                self.assertTrue(all(value.terms.values()))
                self.assertEqual(list(value.terms), sorted(value.terms))
            self.assertEqual((one - one, one * 0, one * Poly()), (KindSum(), KindSum(), KindSum()))

    def test_items_and_signs(self):
        value = of(2) * P + of(1, 1)
        self.assertEqual((value[Kind((2,))], value[Kind((1,))], value[Kind((12,))]), (P, Poly(), Poly()))
        self.assertEqual([row for row in rows_up_to(3) if Kind(row) in value], [(2,), (1, 1)])
        for other in odd_values() + ((2,), "[2]", 2, P):
            told = isinstance(other, Kind) and other.numbers in ((2,), (1, 1))
            self.assertIs(other in value, told)
            if not isinstance(other, Kind):
                self.assertEqual(error_of(lambda: value[other]), ("InvalidKind",))
        for terms, told in ((KindSum(), 0), (UNIT, 1), (of(2) * -1, 1), (value, 2), (whole(8), 22)):
            self.assertTrue(is_like((len(terms), bool(terms)), (told, told > 0)))
        for call in (lambda: iter(value), lambda: list(value), lambda: value < value, lambda: [*value]):
            self.assertEqual(error_of(call), ("TypeError",))

    def test_equal(self):
        made = some_sums()
        for i, j in itertools.product(range(len(made)), repeat=2):
            self.assertIs(made[i] == made[j], is_like(made[i].terms, made[j].terms))
            self.assertIs(made[i] != made[j], i != j)
        for value in odd_ones(KindSum) + [{(2,): ONE}, ONE, 0, "(1)[2]"]:
            self.assertIs(of(2) == value, False)
            self.assertIs(KindSum() == value, False)

    def test_strings(self):
        for value, told in (
            (KindSum(), "0"), (UNIT, "(1)[]"), (of(2) * -1, "(-1)[2]"),
            (of(1, 1) * Poly((1, 1)) + of(2), "(1)[2] + (p + 1)[1 1]"),
            (of(3) + of(1, 1) + of(2, 1) + of(1) + UNIT, "(1)[] + (1)[1] + (1)[1 1] + (1)[3] + (1)[2 1]"),
            (of(2) * 2 - of(1, 1) * P, "(2)[2] + (-p)[1 1]"),
        ):
            self.assertEqual(str(value), told)

    def test_wrong_operands(self):
        value = of(2)
        for other in odd_ones(KindSum) + [{(2,): ONE}, "0", 1.5, Kind((2,))]:
            self.assertEqual(error_of(lambda: value + other), ("TypeError",))
            self.assertEqual(error_of(lambda: value - other), ("TypeError",))
            if not isinstance(other, (int, Poly)) or isinstance(other, bool):
                self.assertEqual(error_of(lambda: value * other), ("TypeError",))
        for other in (0, 1, ONE):
            self.assertEqual(error_of(lambda: value + other), ("TypeError",))

    def test_values(self):
        for value in some_sums():
            for number in (-2, -1, 0, 1, 2, 7, 10 ** 59):
                told = {row: poly(number) for row, poly in value.terms.items() if poly(number) != 0}
                self.assertTrue(is_like(value(number), told))
        self.assertEqual((of(2) * P)(0), {})
        for number in odd_values():
            self.assertTrue(is_like(error_of(of(2), number), ("InvalidNumber", number)))
            self.assertTrue(is_like(error_of(KindSum(), number), ("InvalidNumber", number)))


class Products(unittest.TestCase):
    def test_products_of_kinds(self):
        for m, v in itertools.product(rows_up_to(8), repeat=2):
            if sum(m) + sum(v) <= 6 or sum(m) + sum(v) <= 8 and len(m) % 3 == 1 and len(v) % 2 == 0:
                product = KindSum.of(Kind(m)) * KindSum.of(Kind(v))
                told = product_by_halls(KindSum.of(Kind(m)), KindSum.of(Kind(v)))
                self.assertTrue(is_like(product.terms, told), (m, v))

    def test_products_of_sums(self):
        for one, other in itertools.product(some_sums(), repeat=2):
            product = one * other
            self.assertTrue(is_like(product.terms, product_by_halls(one, other)))
            self.assertEqual(product, other * one)
            self.assertEqual((one * UNIT, UNIT * one), (one, one))

    def test_grouping(self):
        some = some_sums()
        for x, y, z in itertools.product(some[::2], some[1::3], some[2::3]):
            if all(sum(row) < 3 for row in z.terms):
                self.assertEqual((x * y) * z, x * (y * z))
                self.assertEqual(x * (y + z), x * y + x * z)

    def test_rows_of_parts(self):
        for prime, row in ((2, (2, 1)), (2, (1, 1, 1)), (2, (3, 1)), (3, (2, 1)), (2, (2, 1, 1)), (2, (2, 2))):
            inner = [(rest_of(prime, row, part), part) for part in all_parts(prime, row)]
            for steps in itertools.product(rows_up_to(2)[1:], repeat=3):
                if sum(map(sum, steps)) == sum(row):
                    product = UNIT
                    for step in steps:
                        product = product * KindSum.of(Kind(step))
                    many = 0
                    for _, first in [pair for pair in inner if pair[0] == steps[0]]:
                        for _, second in inner:
                            if second < first or second == first:
                                many += step_is(prime, row, first, second, steps[1]) and (
                                    kind_of(prime, row, second) == steps[2]
                                )
                    self.assertEqual(product[Kind(row)](prime), many, (prime, row, steps))

    def test_values_of_products(self):
        for m, v in itertools.product(rows_up_to(4), repeat=2):
            product = KindSum.of(Kind(m)) * KindSum.of(Kind(v))
            at_one = {
                kind.numbers: pairs_at_one(kind, Kind(m), Kind(v)) for kind in kinds_of(sum(m) + sum(v))
                if pairs_at_one(kind, Kind(m), Kind(v))
            }
            self.assertTrue(is_like(product(1), {row: at_one[row] for row in sorted(at_one)}))

    def test_too_great(self):
        for one, other in (
            (of(5), of(4)), (of(8), of(1)), (of(1) + of(5), of(4) + UNIT), (of(8) + UNIT, UNIT + of(1)),
            (of(1, 1, 1, 1, 1), of(1, 1, 1, 1)), (of(8), of(8)),
        ):
            self.assertEqual(error_of(lambda: one * other), ("TooMany", 8))
            self.assertEqual(error_of(lambda: other * one), ("TooMany", 8))
            self.assertEqual((one * KindSum(), KindSum() * one), (KindSum(), KindSum()))
        self.assertEqual((of(8) * UNIT, UNIT * of(8)), (of(8), of(8)))
        self.assertEqual(len(of(4) * of(4)), 5)
        self.assertEqual((of(7) * of(1)).terms, {(7, 1): P, (8,): ONE})


def step_is(prime, row, first, second, numbers):
    """Whether the first part modulo the second one has a kind."""
    counts = []
    for k in range(max(row, default=0) + 1):
        led = sum(tuple(x * prime ** k % prime ** n for x, n in zip(one, row)) in second for one in first)
        counts.append(led // len(second))
    logs = [next(k for k in itertools.count() if prime ** k == many) for many in counts]
    steps = [high - low for low, high in zip(logs, logs[1:])]
    return logs[-1] == sum(numbers) and [step for step in steps if step] == list(Kind(numbers).turned)


class Flats(unittest.TestCase):
    def test_back_and_forth(self):
        for value in some_sums() + [
            KindSum.of(Kind(row)) for row in rows_up_to(6)] + [whole(8), of(8), of(1, 1, 1, 1, 1, 1, 1, 1),
        ]:
            lots = in_flats(value)
            self.assertEqual(list(lots), sorted(lots))
            self.assertTrue(all(lots.values()))
            self.assertEqual(of_flats(lots), value)
        for lots in ({}, {(): P}, {(3, 1): ONE, (2, 2): Poly((1, -1)), (1,): P}, {(8,): ONE, (4, 4): ONE, (): ONE}):
            self.assertTrue(is_like(in_flats(of_flats(lots)), {lot: lots[lot] for lot in sorted(lots)}))
        self.assertEqual(of_flats({(2, 1): Poly(), (1,): ONE}), of(1))

    def test_lots(self):
        for lot in rows_up_to(8):
            told = UNIT
            for number in lot:
                told = told * KindSum.of(Kind((1,) * number))
            value = of_flats({lot: ONE})
            self.assertEqual(value, told)
            kind = Kind(lot).turned
            self.assertEqual(value[kind], ONE)
            self.assertTrue(all(kind.tops(Kind(row)) for row in value.terms))
            self.assertTrue(is_like(in_flats(value), {lot: ONE}))

    def test_told_lots(self):
        told = {(1, 1, 1): "1", (2, 1): "-2p - 1", (3,): "p^3 + p^2 + p"}
        self.assertEqual({lot: str(poly) for lot, poly in in_flats(of(3)).items()}, told)
        self.assertEqual((in_flats(KindSum()), of_flats({}), in_flats(UNIT)), ({}, KindSum(), {(): ONE}))

    def test_wrong_arguments(self):
        for value in odd_ones(KindSum) + [{(1,): ONE}, "0"]:
            self.assertEqual(error_of(in_flats, value), ("InvalidOperation",))
            self.assertEqual(error_of(few_rows, value, -1), ("InvalidOperation",))
        for value in odd_ones(dict) + [
            {(9,): ONE}, {(1, 2): ONE}, {(0,): ONE}, {(True,): ONE}, {1: ONE}, {(1,): 1}, {(1,): None}, {(1,) * 9: ONE},
            {(1,): ONE, "x": ONE}, {(4, 4, 1): Poly()}, {(1,): True}, None, of(1),
        ]:
            self.assertEqual(error_of(of_flats, value), ("InvalidOperation",), value)
        lots = {(2, 1): ONE, (1,): Poly()}
        of_flats(lots)
        self.assertEqual(lots, {(2, 1): ONE, (1,): Poly()})

    def test_whole_and_flats_undo_each_other(self):
        for size in range(9):
            self.assertEqual(whole(size).terms, {row: ONE for row in sorted(rows_up_to(size)) if sum(row) == size})
            factor = [0] * (size * (size - 1) // 2) + [(-1) ** size]
            self.assertEqual(signed_flat(size).terms, {(1,) * size: Poly(tuple(factor))})
            total = KindSum()
            for i in range(size + 1):
                total = total + signed_flat(i) * whole(size - i)
            self.assertEqual(total, UNIT if size == 0 else KindSum())
        for value in odd_values() + (-1, 9, NINES):
            for call in (whole, signed_flat):
                self.assertTrue(is_like(error_of(call, value), ("InvalidNumber", value)))


class FewRows(unittest.TestCase):
    def test_struck_out(self):
        for value in some_sums() + [whole(8), KindSum({row: P for row in rows_up_to(8)})]:
            for many in range(9):
                told = {row: poly for row, poly in value.terms.items() if len(row) <= many}
                self.assertTrue(is_like(few_rows(value, many).terms, told))

    def test_products(self):
        for one, other in itertools.product(some_sums(), repeat=2):
            for many in range(4):
                left = few_rows(few_rows(one, many) * few_rows(other, many), many)
                self.assertEqual(left, few_rows(one * other, many))

    def test_wrong_numbers(self):
        for value in odd_values() + (-1, 9, NINES):
            self.assertTrue(is_like(error_of(few_rows, KindSum(), value), ("InvalidNumber", value)))


class NotTrue(unittest.TestCase):
    def test_false_statements(self):
        self.assertEqual({poly.lead > 0 for poly in in_flats(of(3)).values()}, {True, False})
        self.assertFalse(all(Kind(row).is_line for row in (of(2) * of(2)).terms))
        self.assertEqual(str((of(2) * of(2))[Kind((3, 1))]), "p - 1")


if __name__ == "__main__":
    unittest.main()
