"""Places of points of integers, and how many there are: [13.5] to [13.7]."""

import itertools
import math
import unittest

from primekinds.base.wholes import PRIMES
from primekinds.kind.kinds import Kind, kinds_of
from primekinds.poly.polys import Poly, binomial
from primekinds.ring.halls import hall
from primekinds.table.places import (
    MAX_COORDINATES, MAX_INDEX, MAX_PLACES, MAX_POINTS, Place, index_count, index_poly, place_count, places,
)
from tests.helper import error_of, first_of, is_like, lines_run, odd_ones, odd_values, rows_up_to

NINES = 10 ** 60 - 1


def tables_told(many, index):
    """All least tables of an index, ascending, by going through all corners and all integers behind them."""
    found = []
    for corners in itertools.product(range(1, index + 1), repeat=many):
        if math.prod(corners) == index:
            ranges = [range(corners[j]) for i in range(many) for j in range(i + 1, many)]
            for entries in itertools.product(*ranges):
                left = list(entries)
                table = []
                for i in range(many):
                    behind = [left.pop(0) for _ in range(many - i - 1)]
                    table.append((0,) * i + (corners[i],) + tuple(behind))
                found.append(tuple(table))
    return sorted(found)


def some_points(many, seed, count, bound):
    """Some points; those of unlike seeds are unlike."""
    numbers = [
        (seed * seed * 7919 + 104729 * k * k * k + 31 * k * seed + 17 * k) % (2 * bound + 1) - bound
        for k in range(many * count)
    ]
    return tuple(tuple(numbers[many * i:many * i + many]) for i in range(count))


def determinant(rows):
    if not rows:
        return 1
    rest = [[row[:k] + row[k + 1:] for row in rows[1:]] for k in range(len(rows))]
    return sum((-1) ** k * rows[0][k] * determinant(rest[k]) for k in range(len(rows)) if rows[0][k])


def minors(rows, size):
    return [
        determinant([tuple(row[j] for j in some) for row in lines])
        for lines in itertools.combinations(rows, size) for some in itertools.combinations(range(len(rows[0])), size)
    ]


def numbers_by_minors(prime, rows):
    """The numbers of the kind at a prime of what rows leave, by the common divisors of all minors of each size."""
    many = len(rows[0])
    powers = []
    for size in range(many + 1):
        common, power = math.gcd(*minors(rows, size)), 0
        while common % prime == 0:
            common, power = common // prime, power + 1
        powers.append(power)
    steps = [high - low for low, high in zip(powers, powers[1:])]
    return tuple(sorted((step for step in steps if step), reverse=True))


def window(many, bound):
    return itertools.product(range(-bound, bound + 1), repeat=many)


class Making(unittest.TestCase):
    def test_points_in_a_place(self):
        for many, bound in ((1, 12), (2, 7), (3, 3)):
            for seed in range(12):
                points = some_points(many, seed, many + seed % 2, 3)
                if not any(minors(points, many)):
                    self.assertEqual(error_of(Place, many, points), ("Refused", ("thin",)))
                    continue
                place = Place(many, points)
                index = math.gcd(*minors(points, many))
                self.assertTrue(is_like(place.class_count, index))
                # A point is in the place exactly if it makes no class less.
                for point in window(many, bound):
                    told = math.gcd(*minors(points + (point,), many)) == index
                    self.assertIs(point in place, told, (points, point))

    def test_least_tables(self):
        for many, index in ((1, 6), (2, 6), (2, 8), (3, 4), (3, 6), (4, 2)):
            for table in tables_told(many, index):
                place = Place(many, table)
                self.assertTrue(is_like(place.table, table))
                self.assertEqual(
                    (place.class_count, place.coordinates, len(place), list(place)), (index, many, many, list(table))
                )
                # Other points that make the same place: sums of rows, in another order, with other signs.
                sums = [tuple(-x for x in table[-1])]
                for row in table[-2::-1]:
                    sums.append(tuple(x - 3 * y for x, y in zip(row, sums[-1])))
                other = Place(many, tuple(sums) + tuple(tuple(5 * x for x in row) for row in table))
                self.assertEqual((other.table, other == place), (table, True))

    def test_great_points(self):
        for many in range(1, 5):
            for seed in range(6):
                points = some_points(many, seed, (many, 12)[seed % 2], NINES if seed % 3 else 10 ** 6)
                if any(minors(points[:many + 1], many)):
                    place = Place(many, points)
                    self.assertEqual(place.class_count, math.gcd(*minors(points, many)))
                    self.assertTrue(all(point in place for point in points))
                    for i, row in enumerate(place.table):
                        self.assertTrue(not any(row[:i]) and row[i] > 0)
                        self.assertTrue(all(0 <= row[j] < place.table[j][j] for j in range(i + 1, many)))
        place = Place(1, ((NINES,),))
        self.assertEqual((place.class_count, (NINES * 10 ** 70,) in place, (NINES + 1,) in place), (NINES, True, False))

    def test_thin_ones(self):
        for many in range(1, 5):
            thin = [(), ((0,) * many,) * 12, ((0,) * many,)]
            if many > 1:
                thin += [((1,) * many,), ((1,) * many, (2,) * many), ((NINES,) + (0,) * (many - 1),) * 3]
            for points in thin:
                self.assertEqual(error_of(Place, many, points), ("Refused", ("thin",)))

    def test_wrong_arguments(self):
        for value in odd_values() + (0, 5, -1, NINES):
            self.assertTrue(is_like(error_of(Place, value, 5), ("InvalidNumber", value)))
        for value in odd_ones(tuple) + [
            (1, 2), ((1,),), ((1, 2, 3),), ((1, 2), (1,)), [(1, 2)], ([1, 2],), ((True, 2),), ((1, None),), ((1, "2"),),
            ((10 ** 60, 1),), ((1, 2),) * 13, ((0, 0),) * 13, "12", 3, ((1, -10 ** 60),), (((1,), 2),),
            Place(2, ((1, 0), (0, 1))),
        ]:
            self.assertEqual(error_of(Place, 2, value), ("InvalidPlace",), value)
        self.assertEqual(Place(2, ((1, 0), (0, 1)) * 6), Place(2, ((1, 1), (0, 1))))
        self.assertEqual((MAX_COORDINATES, MAX_POINTS, MAX_INDEX, MAX_PLACES), (4, 12, 10 ** 6, 3000))


class Kinds(unittest.TestCase):
    def test_by_minors(self):
        for many in range(1, 5):
            for seed in range(25):
                points = some_points(many, seed, many + seed % 3, (4, 12, 900)[seed % 3])
                if not any(minors(points, many)):
                    continue
                place = Place(many, points)
                for prime in PRIMES[:6] + PRIMES[-1:]:
                    told = numbers_by_minors(prime, points)
                    if sum(told) > 12:
                        self.assertEqual(error_of(place.kind_at, prime), ("TooMany", 12))
                    else:
                        self.assertEqual(place.kind_at(prime).numbers, told, (points, prime))
                        self.assertEqual(place.class_count % prime ** (sum(told) + 1) == 0, False)

    def test_sizes_of_twelve_and_more(self):
        for points, told in (
            (((2 ** 12,),), (12,)), (((2 ** 6, 0), (0, 2 ** 6)), (6, 6)), (((8, 1, 0), (0, 8, 1), (0, 0, 64)), (12,)),
            (((2, 0, 0, 0), (0, 4, 0, 0), (0, 0, 8, 0), (0, 0, 0, 64)), (6, 3, 2, 1)), (((3 ** 20 * 2 ** 12,),), (12,)),
        ):
            place = Place(len(points[0]), points)
            self.assertEqual(place.kind_at(2).numbers, told)
            self.assertEqual(place.kind_at(97), Kind())
        for points in (((2 ** 13,),), ((2 ** 7, 0), (0, 2 ** 6)), ((2 ** 100, 0), (5, 1))):
            self.assertEqual(error_of(Place(len(points[0]), points).kind_at, 2), ("TooMany", 12))

    def test_wrong_primes(self):
        place = Place(2, ((2 ** 13, 0), (0, 1)))
        for value in odd_values() + (0, 1, 4, 91, 101, -2, NINES):
            self.assertTrue(is_like(error_of(place.kind_at, value), ("InvalidNumber", value)))


class Signs(unittest.TestCase):
    def test_sums_and_meets(self):
        for many in (1, 2, 3):
            made = [Place(many, table) for index in range(1, 5) for table in tables_told(many, index)][::many]
            for one, other in itertools.product(made[::2], made):
                joined, met = one | other, one & other
                bound = 4 if many < 3 else 2
                for point in window(many, bound):
                    self.assertIs(point in met, point in one and point in other)
                self.assertEqual(joined.class_count * met.class_count, one.class_count * other.class_count)
                self.assertTrue(joined.holds(one) and joined.holds(other) and one.holds(met) and other.holds(met))
                self.assertEqual(joined, Place(many, one.table + other.table))
                self.assertIs(one.holds(other), one == joined)
                self.assertEqual((one | one, one & one), (one, one))

    def test_great_ones(self):
        for many in (2, 4):
            one, other = [Place(many, some_points(many, seed, many, NINES)) for seed in (1, 2)]
            joined, met = one | other, one & other
            self.assertEqual(joined.class_count * met.class_count, one.class_count * other.class_count)
            self.assertTrue(joined.holds(one) and other.holds(met))
            row = met.table[0]
            self.assertTrue(row in met and row in one and row in other)
            again = met | one
            self.assertEqual((again, met & one), (one, met))

    def test_in(self):
        place = Place(2, ((2, 0), (1, 3)))
        right = {(x, y) for x, y in window(2, 8) if y % 3 == 0 and (x - y // 3) % 2 == 0}
        self.assertEqual({point for point in window(2, 8) if point in place}, right)
        for value in odd_values() + (
            (4, False), (True, 3), [4, 0], (4,), (4, 0, 0), "40", 4, (4, None), ((4, 0),), (3 * 10 ** 99, "0"), None,
        ):
            self.assertIs(value in place, False, value)
        for value in ((4 * 10 ** 99, 6 * 10 ** 200), (0, 0), (-4, 0), (10 ** 99 + 1, 3)):
            self.assertIs(value in place, value[1] % 3 == 0 and (value[0] - value[1] // 3) % 2 == 0)

    def test_strings_and_equal(self):
        self.assertEqual(str(Place(2, ((1, 1), (0, 3)))), "place of 1 1/0 3")
        self.assertEqual(str(Place(1, ((-5,),))), "place of 5")
        made = [
            Place(1, ((1,),)), Place(2, ((1, 0), (0, 1))), Place(2, ((1, 1), (0, 2))), Place(2, ((2, 0), (0, 1))),
            Place(1, ((2,),))
        ]
        for i, j in itertools.product(range(len(made)), repeat=2):
            self.assertIs(made[i] == made[j], i == j)
            self.assertIs(made[i] != made[j], i != j)
            if len(made[i]) != len(made[j]):
                for call in (lambda: made[i] | made[j], lambda: made[i] & made[j], lambda: made[i].holds(made[j])):
                    self.assertEqual(error_of(call), ("InvalidPlace",))
        for value in odd_ones(Place) + [((1, 0), (0, 1)), 2]:
            self.assertEqual(error_of(made[1].holds, value), ("InvalidPlace",))
            self.assertEqual(error_of(lambda: made[1] | value), ("TypeError",))
            self.assertEqual(error_of(lambda: made[1] & value), ("TypeError",))
            self.assertIs(made[1] == value, False)
        for call in (lambda: made[0] < made[0], lambda: made[0] + made[0], lambda: -made[0], lambda: made[0] * made[0]):
            self.assertEqual(error_of(call), ("TypeError",))


class Listing(unittest.TestCase):
    def test_places(self):
        for many, most in ((1, 30), (2, 30), (3, 12), (4, 6)):
            for index in range(1, most + 1):
                told = tables_told(many, index)
                self.assertTrue(is_like([place.table for place in places(many, index)], told), (many, index))
                self.assertTrue(is_like(index_count(many, index), len(told)))

    def test_many_and_too_many(self):
        for many, index, told in ((2, 2999, 3000), (2, 1592, 3000), (4, 13, 2380), (3, 53, 2863), (1, 10 ** 6, 1)):
            got = [place.table for place in places(many, index)]
            self.assertEqual((len(got), got), (told, sorted(set(got))))
        for many, index in ((2, 3001), (2, 10 ** 6), (3, 54), (4, 16), (4, 10 ** 6)):
            self.assertEqual(error_of(next, places(many, index)), ("TooMany", 3000))

    def test_the_first_ones_take_few_steps(self):
        for many, index in ((2, 2999), (2, 720), (4, 13), (3, 53)):
            every = lines_run(lambda: list(places(many, index)))
            few = lines_run(lambda: first_of(places(many, index), 2))
            self.assertLess(few * 8, every)

    def test_wrong_arguments(self):
        calls = (lambda *given: next(places(*given)), index_count)
        for call in calls:
            for value in odd_values() + (0, 5, -1, NINES):
                self.assertTrue(is_like(error_of(call, value, 0), ("InvalidNumber", value)))
            for value in odd_values() + (0, -1, 10 ** 6 + 1, NINES):
                self.assertTrue(is_like(error_of(call, 4, value), ("InvalidNumber", value)))


def divisors(number):
    return [divisor for divisor in range(1, number + 1) if number % divisor == 0]


def count_told(many, index):
    """The sum over all tuples of integers with the product of the integers to the powers of their indices."""
    if many == 0:
        return int(index == 1)
    return sum(divisor ** (many - 1) * count_told(many - 1, index // divisor) for divisor in divisors(index))


class Counts(unittest.TestCase):
    def test_index_counts(self):
        for many in range(1, 5):
            for index in list(range(1, 80)) + [128, 360, 1024, 2310]:
                self.assertTrue(is_like(index_count(many, index), count_told(many, index)), (many, index))
        for index in (10 ** 6, 999983, 720720, 2 ** 19, 3 ** 12, 510510, 997 * 991):
            self.assertEqual(index_count(1, index), 1)
            self.assertEqual(index_count(2, index), sum(divisors(index)))
            self.assertTrue(index_count(4, index) >= index ** 3)
        for one, other in ((8, 9), (25, 36), (7, 1000), (1, 64), (625, 1024)):
            for many in range(1, 5):
                self.assertEqual(index_count(many, one * other), index_count(many, one) * index_count(many, other))

    def test_index_polys(self):
        for many in range(1, 5):
            for power in range(13):
                poly = index_poly(many, power)
                self.assertEqual(poly, binomial(many + power - 1, power))
                for prime in (2, 3, 5, 97):
                    if prime ** power <= 10 ** 6:
                        self.assertEqual(poly(prime), index_count(many, prime ** power))
                total = Poly()
                for kind in kinds_of(power):
                    total = total + place_count(many, kind)
                self.assertEqual(total, poly)

    def test_place_counts_by_listing(self):
        for many, prime, power in (
            (1, 2, 4), (2, 2, 1), (2, 2, 4), (2, 3, 2), (3, 2, 3), (3, 3, 2), (4, 2, 2), (4, 3, 1), (2, 5, 2),
            (2, 7, 1),
            (2, 2, 6), (3, 2, 4),
        ):
            found = {}
            for place in places(many, prime ** power):
                numbers = place.kind_at(prime).numbers
                found[numbers] = found.get(numbers, 0) + 1
            for kind in kinds_of(power):
                told = found.get(kind.numbers, 0)
                self.assertTrue(is_like(place_count(many, kind)(prime), told), (many, prime, str(kind)))

    def test_place_counts_by_turned_kinds(self):
        for many in range(1, 5):
            for row in rows_up_to(8) + [(12,), (1,) * 12, (6, 6), (3, 3, 3, 3), (9, 1, 1, 1)]:
                kind = Kind(row)
                told = Poly()
                if len(row) <= many:
                    told = Poly((1,))
                    turned = kind.turned.numbers + (0,)
                    for high, low in zip(turned, turned[1:]):
                        told = told * binomial(many - low, high - low).raised(low * (many - high))
                self.assertEqual(place_count(many, kind), told, (many, row))

    def test_places_over_places(self):
        for prime, row in ((2, (1, 1)), (2, (2, 1)), (2, (3,)), (3, (1, 1)), (2, (2, 2)), (2, (2, 1, 1)), (3, (2, 1))):
            inner = next(
                place for place in places(3, prime ** sum(row)) if place.kind_at(prime).numbers == row
            )
            found = {}
            for power in range(sum(row) + 1):
                for place in places(3, prime ** power):
                    if place.holds(inner):
                        # Modulo the place of the index p ** size, the greater place has a kind of its own.
                        behind = tuple(in_rows(place.table, line) for line in inner.table)
                        key = (place.kind_at(prime).numbers, Place(3, behind).kind_at(prime).numbers)
                        found[key] = found.get(key, 0) + 1
            for m, v in itertools.product(rows_up_to(sum(row)), repeat=2):
                self.assertEqual(found.get((m, v), 0), hall(Kind(row), Kind(m), Kind(v))(prime), (prime, row, m, v))

    def test_wrong_arguments(self):
        for value in odd_values() + (0, 5, -1, NINES):
            self.assertTrue(is_like(error_of(index_poly, value, -1), ("InvalidNumber", value)))
            self.assertTrue(is_like(error_of(place_count, value, 5), ("InvalidNumber", value)))
        for value in odd_values() + (-1, 13, NINES):
            self.assertTrue(is_like(error_of(index_poly, 4, value), ("InvalidNumber", value)))
        for value in odd_ones(Kind) + [(1,), 1]:
            self.assertEqual(error_of(place_count, 4, value), ("InvalidKind",))
        self.assertEqual((str(index_poly(1, 12)), str(index_poly(4, 0)), str(place_count(1, Kind()))), ("1", "1", "1"))


def in_rows(table, point):
    """How often the rows of a table go into a point of their place."""
    found, left = [], point
    for i, row in enumerate(table):
        many = left[i] // row[i]
        found.append(many)
        left = tuple(x - many * y for x, y in zip(left, row))
    return tuple(found)


if __name__ == "__main__":
    unittest.main()
