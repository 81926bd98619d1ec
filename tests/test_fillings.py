"""Fillings, how many there are, and their weights: [11.1] to [11.5]."""

import collections
import itertools
import math
import unittest

from primekinds.chain.fillings import (
    MAX_FILLINGS, MAX_WEIGHED, filling_count, fillings, is_filling, weight, weight_poly, word_of,
)
from primekinds.kind.kinds import Kind, kinds_of
from primekinds.poly.polys import Poly
from tests.helper import error_of, first_of, is_like, lines_run, odd_ones, odd_values, paper_values, rows_up_to

NINES = 10 ** 60 - 1
STEP = Kind((2, 1))


def all_fillings(shape, contents):
    """All fillings, letter by letter: each letter is put behind the ends of rows, never twice in one column."""
    found = [tuple(() for _ in shape)]
    for letter, many in enumerate(contents, start=1):
        for _ in range(many):
            found = sorted({
                more for rows in found for more in with_letter(shape, rows, letter)
            })
    return [rows for rows in found if tuple(map(len, rows)) == shape]


def with_letter(shape, rows, letter):
    for i, row in enumerate(rows):
        if len(row) < shape[i] and (i == 0 or len(row) < len(rows[i - 1]) and rows[i - 1][len(row)] < letter):
            yield rows[:i] + (row + (letter,),) + rows[i + 1:]


def contents_of(total, length):
    """All contents of a length with a sum."""
    if length == 0:
        return [()] if total == 0 else []
    return [(first,) + behind for first in range(total + 1) for behind in contents_of(total - first, length - 1)]


def hook_count(shape):
    """How many fillings have each letter once: by the lengths of the hooks of the cells."""
    turned = Kind(shape).turned.numbers
    bottom = math.prod(shape[i] - j + turned[j] - i - 1 for i, number in enumerate(shape) for j in range(number))
    return math.factorial(sum(shape)) // bottom


def weight_told(word):
    """The weight by going round the word step by step, from right to left."""
    left = dict(enumerate(word))
    total = 0
    while 1 in left.values():
        place = max(at for at, letter in left.items() if letter == 1)
        letter, index = 1, 0
        del left[place]
        while letter + 1 in left.values():
            letter += 1
            while left.get(place) != letter:
                place -= 1
                if place < 0:
                    place, index = len(word) - 1, index + 1
            del left[place]
            total += index
    return total


def words_up_to(length, letters):
    return [word for many in range(length + 1) for word in itertools.product(range(1, letters + 1), repeat=many)]


class Listing(unittest.TestCase):
    def test_letter_by_letter(self):
        for shape in rows_up_to(6):
            for length in range(5 if sum(shape) < 5 else 4):
                for contents in contents_of(sum(shape), length):
                    told = all_fillings(shape, contents)
                    got = list(fillings(Kind(shape), contents))
                    self.assertTrue(is_like(got, told), (shape, contents))
                    self.assertTrue(is_like(filling_count(Kind(shape), contents), len(told)))

    def test_great_shapes(self):
        for shape, contents in (
            ((3, 2, 1), (1,) * 6), ((4, 2, 1, 1), (1,) * 8), ((3, 3, 2), (2, 1, 2, 1, 2)), ((5, 4, 3), (3, 2, 3, 2, 2)),
            ((6, 6), (1,) * 12), ((4, 4, 4), (2,) * 6), ((3, 3, 3, 3), (3, 0, 3, 2, 2, 0, 2)),
            ((7, 3, 2), (3, 3, 3, 3)),
            ((2,) * 6, (2, 1, 2, 1, 2, 1, 2, 1)), ((1,) * 12, (1,) * 12), ((12,), (1,) * 12), ((12,), (12,)),
        ):
            told = all_fillings(shape, contents)
            self.assertTrue(is_like(list(fillings(Kind(shape), contents)), told), shape)
            self.assertEqual(filling_count(Kind(shape), contents), len(told))
            self.assertTrue(told)

    def test_edges(self):
        none = Kind()
        for contents in ((), (0,), (0, 0, 0), (0,) * 12):
            self.assertEqual((list(fillings(none, contents)), filling_count(none, contents)), ([()], 1))
            self.assertIs(is_filling(none, contents, ()), True)
            self.assertEqual((list(fillings(STEP, contents)), filling_count(STEP, contents)), ([], 0))
        self.assertEqual((list(fillings(none, (1,))), filling_count(none, (0, 1))), ([], 0))
        self.assertEqual(list(fillings(STEP, (0, 2, 0, 1))), [((2, 2), (4,))])
        self.assertEqual(list(fillings(STEP, (12, 12))), [])
        self.assertEqual((MAX_FILLINGS, MAX_WEIGHED), (2000, 8))

    def test_order_of_contents(self):
        for shape in rows_up_to(6):
            for contents in contents_of(sum(shape), 4):
                falling = tuple(sorted(filter(None, contents), reverse=True))
                many = filling_count(Kind(shape), contents)
                self.assertEqual(many, filling_count(Kind(shape), falling))
                self.assertIs(many > 0, Kind(shape).tops(Kind(falling)))

    def test_many_and_too_many(self):
        for shape, contents, many in (
            ((4, 3, 3, 1, 1), (2,) + (1,) * 10, 1953), ((7, 3, 2), (1,) * 12, 1925),
            ((4, 3, 3, 1, 1), (1,) * 10 + (2,), 1953),
        ):
            self.assertEqual(filling_count(Kind(shape), contents), many)
            got = list(fillings(Kind(shape), contents))
            self.assertEqual(len(got), many)
            self.assertEqual(got, sorted(set(got)))
            self.assertTrue(all(is_filling(Kind(shape), contents, one) for one in got[::97]))
        for shape in ((5, 4, 2, 1), (4, 3, 2, 2, 1), (4, 3, 1, 1, 1, 1, 1), (7, 2, 2, 1)):
            self.assertEqual(filling_count(Kind(shape), (1,) * 12), hook_count(shape))
            self.assertEqual(error_of(next, fillings(Kind(shape), (1,) * 12)), ("TooMany", 2000))
        self.assertEqual(filling_count(Kind((6, 3, 1, 1, 1)), (2,) + (1,) * 10), 2016)
        self.assertEqual(error_of(next, fillings(Kind((6, 3, 1, 1, 1)), (1,) * 10 + (2,))), ("TooMany", 2000))

    def test_each_letter_once(self):
        for shape in rows_up_to(12):
            self.assertEqual(filling_count(Kind(shape), (1,) * sum(shape)), hook_count(shape))

    def test_the_first_ones_take_few_steps(self):
        for shape, contents in (((4, 3, 3, 1, 1), (2,) + (1,) * 10), ((7, 3, 2), (1,) * 12)):
            every = lines_run(lambda: list(fillings(Kind(shape), contents)))
            few = lines_run(lambda: first_of(fillings(Kind(shape), contents), 2))
            counted = lines_run(lambda: filling_count(Kind(shape), contents))
            self.assertLess(few - counted, every / 50)

    def test_wrong_arguments(self):
        calls = (
            lambda *given: next(fillings(*given)), filling_count, lambda *given: is_filling(*given, ((1, 1), (2,))),
        )
        for call in calls:
            for value in odd_ones(Kind) + [(2, 1), 3, "[2 1]"]:
                self.assertEqual(error_of(call, value, (2, 1)), ("InvalidKind",))
                self.assertEqual(error_of(call, value, 5), ("InvalidKind",))
            for value in odd_ones(tuple) + [
                (13,), (-1,), (True,), (2, False), (1,) * 13, (0,) * 13, ("1",), (None,), ((1,),), [2, 1], 3, (NINES,),
                (2, 1, -1), (10 ** 70,), {2: 1}, (STEP,),
            ]:
                self.assertEqual(error_of(call, STEP, value), ("InvalidOperation",), value)
            self.assertNotEqual(error_of(call, Kind((12,)), (12,) + (0,) * 11)[0], "InvalidOperation")
        generator = fillings(5, 5)
        self.assertEqual(error_of(next, generator), ("InvalidKind",))


class Judging(unittest.TestCase):
    def test_all_fillings_of_small_letters(self):
        for shape in ((2, 1), (2, 2), (3,), (1, 1, 1), (1,)):
            rows = [list(itertools.product(range(5), repeat=number)) for number in shape]
            for contents in contents_of(sum(shape), 3):
                right = all_fillings(shape, contents)
                for value in itertools.product(*rows):
                    self.assertIs(is_filling(Kind(shape), contents, value), value in right, (shape, contents, value))

    def test_near_fillings(self):
        value = ((1, 1, 2), (2, 3), (4,))
        shape, contents = Kind((3, 2, 1)), (2, 2, 1, 1)
        self.assertIs(is_filling(shape, contents, value), True)
        for i, row in enumerate(value):
            for j in range(len(row)):
                for letter in (-1, 0, 1, 2, 3, 4, 5, NINES, 10 ** 99, True, None, "1", (1,)):
                    near = value[:i] + (row[:j] + (letter,) + row[j + 1:],) + value[i + 1:]
                    self.assertIs(is_filling(shape, contents, near), is_like(near, value), near)
        for near in (
            list(value), value[:2], value + ((),), value + ((5,),), value[::-1], ([1, 1, 2],) + value[1:], value[0],
            ((1, 1, 2), (2, 3), (4,), ()), ((1, 1), (2, 2, 3), (4,)), ((1, 1, 2, 4), (2, 3)), (),
        ):
            self.assertIs(is_filling(shape, contents, near), False, near)
        for other in ((2, 2, 1, 1, 0), (2, 2, 1, 1, 0, 0)):
            self.assertIs(is_filling(shape, other, value), True)
        for other in ((2, 2, 1), (2, 2, 2), (2, 2, 1, 1, 1), (2, 1, 2, 1), (), (0, 2, 2, 1, 1), (2, 2, 1, 0)):
            self.assertIs(is_filling(shape, other, value), False)

    def test_values_of_every_sort(self):
        for value in paper_values() + [0, 1, ((1, 1), (2,), ()), [(1, 1), (2,)]]:
            self.assertIs(is_filling(STEP, (2, 1), value), False, value)
            told = value if value == () and isinstance(value, tuple) else None
            self.assertIs(is_filling(Kind(), (), value), told is not None, value)


class Words(unittest.TestCase):
    def test_words_of_fillings(self):
        for shape in rows_up_to(5):
            for filling in all_fillings(shape, (1,) * sum(shape)) + all_fillings(shape, (2, 2, 1)):
                told = ()
                for row in filling:
                    told = row + told
                self.assertTrue(is_like(word_of(filling), told))
        self.assertEqual(word_of(()), ())
        self.assertEqual(word_of(((3, 12), (12,))), (12, 3, 12))
        self.assertEqual(word_of(((1,) * 12,)), (1,) * 12)
        self.assertEqual(word_of(tuple((k,) for k in range(1, 13))), tuple(range(12, 0, -1)))

    def test_what_is_no_filling(self):
        for value in odd_values() + (
            ((1, 2), (1,)), ((2, 1),), ((1,), (2, 3)), ((0,),), ((13,),), ((1, 13),), ((1,), ()), ((),), [(1,)], ([1],),
            ((True,),), ((1, None),), ((1,) * 13,), tuple((k,) for k in range(1, 14)), ((NINES,),), ((10 ** 70,),), 1,
            ((1, 1), (2, 1)), ((-1,),), (1, 2), ((1,), (1,)), "12", (((1,),),), ((1,) * 7, (2,) * 6),
        ):
            if value != ():
                self.assertEqual(error_of(word_of, value), ("InvalidFilling",), value)


class Weights(unittest.TestCase):
    def test_by_going_round(self):
        for word in words_up_to(6, 4) + [word for word in words_up_to(8, 2)]:
            counts = [word.count(letter) for letter in range(1, 13)]
            wrong = [i for i in range(1, 12) if counts[i] > counts[i - 1]]
            if wrong:
                self.assertEqual(error_of(weight, word), ("Refused", ("contents", wrong[0])), word)
            else:
                self.assertTrue(is_like(weight(word), weight_told(word)), word)

    def test_long_words(self):
        for word in (
            tuple(range(1, 13)), tuple(range(12, 0, -1)), (1, 2, 3, 4) * 3, (4, 3, 2, 1) * 3, (1,) * 12, (2, 1) * 6,
            (1, 2) * 6, (3, 1, 2, 2, 1, 3, 1, 2, 4, 1, 5, 3), (1, 1, 1, 2, 2, 2, 3, 3, 3, 4, 4, 4),
            (7, 3, 5, 1, 6, 2, 4, 1, 2, 3, 1, 8),
        ):
            self.assertEqual(weight(word), weight_told(word), word)
        self.assertEqual((weight(()), weight((1,)), weight(tuple(range(1, 13)))), (0, 0, 66))
        self.assertEqual(weight((3, 1, 2)), 2)

    def test_wrong_words(self):
        for value in odd_ones(tuple) + [
            (0,), (13,), (1, -1), (True,), (1, True), ((1,),), ("1",), (None,), (1,) * 13, (2,) * 13, [1], "1", 1,
            (NINES,),
            (2, 0), (10 ** 70,), (2, 13),
        ]:
            self.assertEqual(error_of(weight, value), ("InvalidOperation",), value)
        for word, letter in (
            ((2,), 1), ((1, 2, 2), 1), ((1, 1, 2, 3, 3), 2), ((3, 3, 2, 2), 1), ((1, 12), 11), ((12,), 11)
        ):
            self.assertEqual(error_of(weight, word), ("Refused", ("contents", letter)))


class Polys(unittest.TestCase):
    def test_sums_over_all_fillings(self):
        for size in range(7):
            for shape, kind in itertools.product(kinds_of(size), repeat=2):
                found = collections.Counter()
                for filling in all_fillings(shape.numbers, kind.numbers):
                    found[weight_told(tuple(letter for row in filling[::-1] for letter in row))] += 1
                told = Poly(tuple(found[k] for k in range(max(found, default=0) + 1)))
                self.assertEqual(weight_poly(shape, kind), told, (str(shape), str(kind)))

    def test_degrees_and_leads(self):
        for size in range(9):
            for shape, kind in itertools.product(kinds_of(size), repeat=2):
                poly = weight_poly(shape, kind)
                if shape.tops(kind):
                    self.assertEqual((poly.degree, poly.lead), (kind.slant - shape.slant, 1))
                    self.assertEqual(poly(1), filling_count(shape, kind.numbers))
                    self.assertTrue(shape != kind or poly == Poly((1,)))
                    self.assertTrue(not shape.is_line or poly == Poly((1,)).raised(kind.slant))
                else:
                    self.assertEqual(poly, Poly())

    def test_sizes(self):
        for shape, kind in (
            (Kind((12,)), Kind((8,))), (Kind(), Kind((1,))), (Kind((9,)), Kind()), (Kind((3,)), STEP.over(STEP))
        ):
            self.assertEqual(weight_poly(shape, kind), Poly())
        self.assertEqual(weight_poly(Kind(), Kind()), Poly((1,)))
        for shape in (Kind((9,)), Kind((8,)), Kind()):
            for kind in (Kind((9,)), Kind((1,) * 9), Kind((12,)), Kind((5, 4))):
                self.assertEqual(error_of(weight_poly, shape, kind), ("TooMany", 8))

    def test_wrong_kinds(self):
        for value in odd_ones(Kind) + [(2, 1), 3]:
            self.assertEqual(error_of(weight_poly, value, value), ("InvalidKind",))
            self.assertEqual(error_of(weight_poly, value, Kind((9,))), ("InvalidKind",))
            self.assertEqual(error_of(weight_poly, STEP, value), ("InvalidKind",))

    def test_not_true(self):
        # Two fillings with one shape and one contents, and unlike weights.
        weights = {weight(word_of(filling)) for filling in fillings(STEP, (1, 1, 1))}
        self.assertEqual(weights, {1, 2})


if __name__ == "__main__":
    unittest.main()
