"""What the document promises over the whole program: [0.1] to [0.7], [0.14] to [0.22]."""

import collections
import itertools
import unittest
from fractions import Fraction

from primekinds.chain.fillings import filling_count, fillings, weight, weight_poly, word_of
from primekinds.chain.inverse import beside_count, makes_paper
from primekinds.chain.rows import row_count, rows_of_parts
from primekinds.count.counts import kind_counts, part_count
from primekinds.desk.desk import Desk
from primekinds.group.groups import Group, count_with, height_rows, leading
from primekinds.group.parts import Part, beside_paper, member_paper, parts
from primekinds.kind.kinds import Kind, kinds_of
from primekinds.maps.joinings import Glue, glue_count, glues, joined_counts, quarter_sum
from primekinds.maps.kept import is_kept, kept_paper, kept_rows, undoable_kept
from primekinds.maps.maps import GroupMap, image_counts, into_paper, map_count, maps, onto_count, undoable_count
from primekinds.poly.polys import Poly
from primekinds.ring.halls import hall, pairs_in
from primekinds.ring.rings import KindSum, in_flats, of_flats, signed_flat, whole
from primekinds.table.places import Place, place_count, places
from primekinds.table.shares import onto_share, share, size_share
from primekinds.table.tables import Table, alike_paper, left_count
from tests.helper import (
    all_images, all_parts, elements_of, error_of, kind_of, led_to, made_by, odd_values, plus, rest_of, row_of_heights,
    rows_up_to, times,
)

# Kinds whose groups can be listed at two primes.
TWO_PRIMES = [row for row in rows_up_to(3)]
G = Group(2, Kind((2, 1)))


def counted(values):
    """How often each value comes."""
    return dict(collections.Counter(values))


def at(polys, prime):
    """The values of polynomials at a prime, where these are not 0."""
    return {key: poly(prime) for key, poly in polys.items() if poly(prime)}


class OnePolynomial(unittest.TestCase):
    """[0.14]: each number is listed at 2 and at 3, and told by one polynomial."""

    def test_elements_with_a_height_row(self):
        for row, prime in itertools.product(TWO_PRIMES + [(3, 1)], (2, 3)):
            told = counted(row_of_heights(prime, row, one) for one in elements_of(prime, row))
            polys = {heights: count_with(Kind(row), heights) for heights in height_rows(Kind(row))}
            self.assertEqual(at(polys, prime), told)

    def test_parts_of_a_kind_and_with_a_rest(self):
        for row, prime in itertools.product(TWO_PRIMES + [(3, 1), (2, 2)], (2, 3)):
            every = all_parts(prime, row)
            told = counted(kind_of(prime, row, part) for part in every)
            self.assertEqual(at(kind_counts(Kind(row)), prime), told)
            told = counted((rest_of(prime, row, part), kind_of(prime, row, part)) for part in every)
            self.assertEqual(at(pairs_in(Kind(row)), prime), told)

    def test_rows_of_parts(self):
        for row, prime in itertools.product(TWO_PRIMES, (2, 3)):
            every = all_parts(prime, row)
            for sizes in ((1,) * sum(row), (sum(row),), (2, sum(row) - 2), (1, sum(row) - 1)):
                if min(sizes, default=1) > 0 and sum(sizes) == sum(row):
                    found = [frozenset([(0,) * len(row)])]
                    for size in sizes:
                        found = [
                            part for ahead in found for part in every
                            if ahead <= part and len(part) == len(ahead) * prime ** size
                        ]
                    self.assertEqual(row_count(Kind(row), sizes)(prime), len(found))

    def test_maps(self):
        for (row, other), prime in itertools.product(itertools.product(TWO_PRIMES, repeat=2), (2, 3)):
            if prime ** sum(min(n, m) for n in row for m in other) < 800:
                some, images = elements_of(prime, row), all_images(prime, row, other)
                self.assertEqual(map_count(Kind(row), Kind(other))(prime), len(images))
                ends = [frozenset(led_to(prime, other, some_images, one) for one in some) for some_images in images]
                told = counted(kind_of(prime, other, end) for end in ends)
                self.assertEqual(at(image_counts(Kind(row), Kind(other)), prime), told)
                if row == other:
                    undoable = sum(len(end) == len(some) for end in ends)
                    self.assertEqual(undoable_count(Kind(row))(prime), undoable)

    def test_tables_that_leave_a_kind(self):
        for (n, m, many), prime in itertools.product(((2, 2, 1), (1, 2, 2), (2, 1, 2), (3, 1, 1), (1, 3, 1)), (2, 3)):
            lines = list(itertools.product(range(prime ** many), repeat=m))
            told = counted(Table(prime, many, rows).left.numbers for rows in itertools.product(lines, repeat=n))
            polys = {row: left_count(n, m, many, Kind(row)) for row in rows_up_to(many * m)}
            self.assertEqual(at(polys, prime), told)

    def test_places_that_leave_a_kind(self):
        for (many, power), prime in itertools.product(((1, 3), (2, 1), (2, 2), (2, 3), (3, 1), (3, 2)), (2, 3)):
            told = counted(place.kind_at(prime).numbers for place in places(many, prime ** power))
            polys = {kind.numbers: place_count(many, kind) for kind in kinds_of(power)}
            self.assertEqual(at(polys, prime), told)


class MainStatements(unittest.TestCase):
    def test_elements(self):
        for prime, row in ((2, (2, 1)), (2, (3, 1)), (3, (1, 1)), (2, (2, 2))):
            group, images = Group(prime, Kind(row)), all_images(prime, row, row)
            for one in group.members():
                ends = {led_to(prime, row, some, one) for some in images}
                for other in group.members():
                    one_row, row_other = row_of_heights(prime, row, one), row_of_heights(prime, row, other)
                    above = len(row_other) <= len(one_row) and all(x <= y for x, y in zip(one_row, row_other))
                    self.assertIs(other in ends, above)
                    self.assertEqual(leading(group, one, other)[0], "images" if above else "height")

    def test_sides(self):
        for prime, row in ((2, (2, 1)), (2, (3, 1)), (3, (2, 1)), (2, (2, 1, 1))):
            every = list(parts(Group(prime, Kind(row))))
            for part in every:
                side = part.other_side
                self.assertEqual((side.kind, side.rest, side.other_side), (part.rest, part.kind, part))
                beside = sum(len(part) * len(other) == prime ** sum(row) and len(part & other) == 1 for other in every)
                self.assertEqual(beside_count(part), beside)
                self.assertEqual(beside_paper(part)[0], "beside" if beside else "higher")

    def test_the_ring(self):
        some = [KindSum.of(Kind(row)) for row in ((1,), (2,), (1, 1), (2, 1))]
        for x, y, z in itertools.product(some, repeat=3):
            if x is not some[3] or y is not some[3] or z is not some[3]:
                self.assertEqual((x * y, (x * y) * z), (y * x, x * (y * z)))
        for x, y in itertools.product(some, repeat=2):
            for kind in kinds_of(sum(map(sum, list(x.terms) + list(y.terms)))):
                m, v = Kind(list(x.terms)[0]), Kind(list(y.terms)[0])
                self.assertEqual((x * y)[kind], hall(kind, m, v))
        for row in rows_up_to(5):
            value = KindSum.of(Kind(row))
            self.assertEqual(of_flats(in_flats(value)), value)
        for size in range(1, 7):
            total = KindSum()
            for i in range(size + 1):
                total = total + signed_flat(i) * whole(size - i)
            self.assertEqual(total, KindSum())

    def test_joinings(self):
        for prime, m, v in ((2, (2,), (1,)), (2, (1, 1), (1,)), (3, (1,), (2,)), (2, (2,), (2,)), (2, (2, 1), (1,))):
            one, other = Kind(m), Kind(v)
            told = counted(glue.kind.numbers for glue in glues(prime, one, other))
            self.assertEqual(at(joined_counts(one, other), prime), told)
            self.assertEqual(glue_count(one, other), map_count(one, other))
            times_maps = map_count(one, other) * undoable_count(one) * undoable_count(other)
            for row, poly in joined_counts(one, other).items():
                self.assertEqual(poly * undoable_count(Kind(row)), hall(Kind(row), one, other) * times_maps)

    def test_kept_parts(self):
        for row in rows_up_to(4):
            for prime in (2, 3):
                if prime ** sum(row) <= 81 and row != (1, 1, 1, 1):
                    kept = [part for part in parts(Group(prime, Kind(row))) if is_kept(part)]
                    self.assertEqual(len(kept), len(kept_rows(Kind(row))))
        self.assertGreater(len(undoable_kept(Group(2, Kind((3, 1))))), len(kept_rows(Kind((3, 1)))))
        self.assertEqual(len(undoable_kept(Group(3, Kind((3, 1))))), len(kept_rows(Kind((3, 1)))))

    def test_rows_of_parts(self):
        for row, sizes in (
            ((2, 1), (1, 2)), ((2, 1, 1), (1, 2, 1)), ((3, 1), (1, 3)), ((1, 1, 1, 1), (1, 1, 2)), ((2, 2), (2, 1, 1))
        ):
            kind, told = Kind(row), Poly()
            for shape in kinds_of(kind.size):
                told = told + weight_poly(shape, kind).turned_round(kind.slant) * filling_count(shape, sizes)
            for some in itertools.permutations(sizes):
                self.assertEqual(row_count(kind, some), told)
                self.assertEqual(len(list(rows_of_parts(Group(2, kind), some))), told(2))

    def test_shares(self):
        for prime, size in itertools.product((2, 3, 5), range(6)):
            total = sum(Fraction(*share(prime, kind)) for kind in kinds_of(size))
            self.assertEqual(size_share(prime, size), (total.numerator, total.denominator))
            for inner in kinds_of(2):
                led = sum(Fraction(*share(prime, kind)) * onto_count(kind, inner)(prime) for kind in kinds_of(size))
                self.assertEqual(onto_share(prime, size, inner), (led.numerator, led.denominator) if led else (0, 1))


class NotTrue(unittest.TestCase):
    """[0.22]: for each of the statements a case in which it does not hold."""

    def test_elements_that_vanish_by_the_same_power(self):
        self.assertEqual((G.order_of((2, 0)), G.order_of((0, 1))), (1, 1))
        self.assertEqual(leading(G, (2, 0), (0, 1))[0], "height")

    def test_parts_of_one_kind(self):
        one, other = Part(G, ((2, 0),)), Part(G, ((0, 1),))
        self.assertEqual(one.kind, other.kind)
        self.assertNotEqual(one.rest, other.rest)
        self.assertFalse(any(lead.forth(one) == other for lead in maps(G, G)))
        self.assertEqual((beside_paper(one)[0], beside_paper(other)[0]), ("higher", "beside"))

    def test_pairs_of_elements(self):
        many = []
        for prime in (2, 3):
            pairs = list(itertools.product(range(prime), repeat=2))
            classes = {frozenset((x * k % prime, y * k % prime) for k in range(1, prime)) for x, y in pairs}
            many.append(len(classes))
        self.assertEqual(many, [4, 5])

    def test_what_undoable_own_maps_keep(self):
        odd = [part for part in undoable_kept(Group(2, Kind((3, 1)))) if not is_kept(part)]
        self.assertEqual(len(odd), 1)

    def test_numbers_of_parts(self):
        self.assertEqual(str(hall(Kind((3, 1)), Kind((2,)), Kind((2,)))), "p - 1")
        self.assertEqual(part_count(Kind((2, 1)), Kind((1,)))(1), 2)

    def test_tables(self):
        self.assertNotEqual(Table(2, 2, ((2, 0), (0, 2))).left, Table(2, 2, ((1, 0), (0, 0))).left)

    def test_the_most_own_maps(self):
        self.assertGreater(map_count(Kind((1, 1)), Kind((1, 1)))(2), map_count(Kind((2,)), Kind((2,)))(2))

    def test_sizes_in_another_order(self):
        for kind in kinds_of(5):
            self.assertEqual(row_count(kind, (2, 2, 1)), row_count(kind, (1, 2, 2)))

    def test_weights(self):
        weights = {weight(word_of(filling)) for filling in fillings(Kind((2, 1)), (1, 1, 1))}
        self.assertEqual(len(weights), 2)


def some_objects():
    """Objects of all classes, and for each whether it can be iterated over."""
    group = Group(2, Kind((2, 1)))
    desk = Desk(group)
    desk.put("a", Part(group, ()))
    return (
        (Poly((1, 2)), True), (Kind((2, 1)), True), (group, False), (Part(group, ((1, 1),)), True),
        (KindSum.of(Kind((1,))), False),
        (GroupMap.itself(group), False), (Glue(2, Kind((1,)), Kind((1,)), ((1,),)), False),
        (Table(2, 2, ((1, 2), (3, 0))), True),
        (Place(2, ((1, 1), (0, 3))), True), (desk, False),
    )


class Conventions(unittest.TestCase):
    def test_iteration(self):
        for value, told in some_objects():
            got = error_of(list, value)
            self.assertEqual(got[0], "no error" if told else "TypeError", value)

    def test_equality_and_in(self):
        some, others = some_objects(), some_objects()
        for i, (one, _) in enumerate(some):
            for j, (other, _) in enumerate(others):
                self.assertIs(one == other, i == j)
                self.assertIs(one != other, i != j)
                self.assertIn(
                    one in other if hasattr(other, "__contains__") or hasattr(other, "__iter__") else False,
                    (False, True)
                )
            for value in odd_values() + ("x", 5, [one], (one,), {1: one}):
                if value.__class__ is not one.__class__:
                    self.assertIs(one == value, False)
                    self.assertIs(one != value, True)
                if hasattr(one, "__contains__"):
                    self.assertIn(value in one, (False, True))

    def test_other_operands(self):
        some = some_objects()
        signs = (
            lambda x, y: x + y, lambda x, y: x - y, lambda x, y: x * y, lambda x, y: x | y, lambda x, y: x & y,
            lambda x, y: x < y,
            lambda x, y: x <= y, lambda x, y: x ** y, lambda x, y: x // y, lambda x, y: x % y, lambda x, y: x >> y,
        )
        for i, (one, _) in enumerate(some):
            for j, (other, _) in enumerate(some):
                if i != j and not (isinstance(one, KindSum) and isinstance(other, Poly)):
                    for sign in signs:
                        self.assertEqual(error_of(sign, one, other), ("TypeError",), (one, other))
            for value in (None, "x", 1.5, [1], {}):
                for sign in signs:
                    self.assertEqual(error_of(sign, one, value), ("TypeError",), (one, value))

    def test_objects_are_never_changed(self):
        for value, _ in some_objects():
            if not isinstance(value, Desk):
                for name in (
                    "numbers", "kind", "table", "rows", "images", "factors", "terms", "prime", "size", "group"
                ):
                    if hasattr(value, name):
                        with self.assertRaises(AttributeError):
                            setattr(value, name, 5)

    def test_equal_calls_return_equal_results(self):
        table, other = Table(3, 2, ((1, 3), (3, 0))), Table(3, 2, ((0, 3), (1, 5)))
        part = Part(G, ((1, 1),))
        for call in (
            lambda: alike_paper(table, other), lambda: table.turnings(), lambda: makes_paper(G, ((1, 0), (1, 1))),
            lambda: beside_paper(part), lambda: kept_paper(part), lambda: member_paper(part, (1, 0)),
            lambda: leading(G, (1, 0), (0, 1)),
            lambda: into_paper(G, Group(2, Kind((3, 1)))), lambda: list(places(2, 6)),
            lambda: list(rows_of_parts(G, (1, 2))),
            lambda: quarter_sum(Kind((1,)), Kind((1,)), Kind((1,)), Kind((1,))),
        ):
            self.assertEqual(call(), call())

    def test_papers_are_small(self):
        group = Group(2, Kind((1,) * 8))
        for paper in (
            makes_paper(group, group.base), leading(group, group.base[0], group.zero),
            member_paper(Part(group, ()), group.zero),
            into_paper(group, group), kept_paper(Part(group, group.base[:1])),
        ):
            self.check_small(paper)

    def check_small(self, value):
        if isinstance(value, tuple):
            self.assertLessEqual(len(value), 300)
            for one in value:
                self.check_small(one)
        elif not isinstance(value, (str, Part)):
            self.assertTrue(-10 ** 60 < value < 10 ** 60)

    def test_generators_raise_with_the_first_one(self):
        for call, given, told in (
            (parts, (5,), ("InvalidGroup",)), (maps, (5, 5), ("InvalidGroup",)),
            (glues, (4, 5, 5), ("InvalidNumber", 4)),
            (fillings, (5, 5), ("InvalidKind",)), (rows_of_parts, (5, 5), ("InvalidGroup",)),
            (places, (5, 0), ("InvalidNumber", 5)),
        ):
            generator = call(*given)
            self.assertEqual(error_of(next, generator), told)

    def test_sums_of_elements(self):
        # A part is a group for itself: what its elements make is all of it.
        for part in parts(Group(2, Kind((2, 2)))):
            self.assertEqual(made_by(2, (2, 2), list(part)), frozenset(part))
            for one, other in itertools.product(part, repeat=2):
                self.assertIn(plus(2, (2, 2), one, times(2, (2, 2), other, 3)), part)


if __name__ == "__main__":
    unittest.main()
