"""The class of kinds: [2.1] to [2.8]."""

import itertools
import unittest

from primekinds.kind.kinds import Kind
from primekinds.poly.polys import Poly
from tests.helper import cells, error_of, is_like, lines_run, odd_values, row_of, rows_up_to

NINES = 10 ** 60 - 1
ALL = rows_up_to(12)
SOME = rows_up_to(6)


def text_of(row):
    return "[" + " ".join(str(number) for number in row) + "]"


class Making(unittest.TestCase):
    def test_all_kinds_can_be_made(self):
        self.assertEqual(len(ALL), 272)
        for row in ALL:
            self.assertTrue(is_like(Kind(row).numbers, row), row)
        self.assertEqual(Kind().numbers, ())

    def test_wrong_numbers(self):
        for row in (
            (13,), (12, 1), (6, 6, 1), (1,) * 13, (7, 6), (0,), (1, 0), (0, 0), (-1,), (2, -1), (1, 2), (3, 1, 2),
            (2, 2, 3), (5, 8), (NINES,), (NINES, 1), (1.0,), ("1",), ((1,),), (2, True), (True,), (None,), (2, None),
        ):
            self.assertEqual(error_of(Kind, row), ("InvalidKind",), row)

    def test_other_values(self):
        for value in odd_values() + (0, 1, 12, "[]", [2, 1], "[2 1]", {2: 1}, b"", 1.5):
            if value not in ((), (1,)):
                self.assertEqual(error_of(Kind, value), ("InvalidKind",), value)
        for value in odd_values() + (0, -1, 13, "[]", [2, 1], "[2 1]", {2: 1}, b"", 1.5):
            self.assertEqual(error_of(Kind, (value,)), ("InvalidKind",), value)
            self.assertEqual(error_of(Kind, (5, value, 1)), ("InvalidKind",), value)


class Properties(unittest.TestCase):
    def test_plain_ones(self):
        for row in ALL:
            kind = Kind(row)
            told = (sum(row), len(row), max(row, default=0))
            self.assertEqual((kind.size, kind.rank, kind.height), told)
            self.assertIs(kind.is_flat, set(row) <= {1})
            self.assertIs(kind.is_line, row[1:] == ())
            self.assertEqual((len(kind), list(kind), [x for x in kind]), (len(row), list(row), list(row)))
            self.assertEqual(kind.slant, sum(i for i, _ in cells(row)))

    def test_the_kind_without_numbers(self):
        kind = Kind()
        self.assertEqual((kind.size, kind.rank, kind.height, kind.slant, kind.repeats), (0, 0, 0, 0, {}))
        self.assertEqual((kind.is_flat, kind.is_line, kind.turned, str(kind)), (True, True, kind, "[]"))

    def test_repeats(self):
        for row in ALL:
            told = {number: row.count(number) for number in sorted(set(row))}
            self.assertTrue(is_like(Kind(row).repeats, told), row)
        kind = Kind((3, 1, 1))
        kind.repeats[3] = 9
        self.assertEqual(kind.repeats, {1: 2, 3: 1})

    def test_turned(self):
        for row in ALL:
            kind = Kind(row)
            self.assertEqual(kind.turned.numbers, row_of({(j, i) for i, j in cells(row)}))
            self.assertEqual(kind.turned.turned, kind)
            told = (kind.size, kind.height, kind.rank)
            self.assertEqual((kind.turned.size, kind.turned.rank, kind.turned.height), told)

    def test_slant_by_the_turned_kind(self):
        for row in ALL:
            self.assertEqual(Kind(row).slant, sum(t * (t - 1) // 2 for t in Kind(row).turned))

    def test_items(self):
        for row in SOME:
            self.assertEqual([Kind(row)[i] for i in range(15)], list(row) + [0] * (15 - len(row)))
        self.assertEqual(Kind((3, 1))[NINES], 0)
        for value in odd_values() + (-1, -2, -NINES):
            for kind in (Kind((3, 1)), Kind()):
                self.assertTrue(is_like(error_of(lambda: kind[value]), ("InvalidNumber", value)), value)


class Pairs(unittest.TestCase):
    def test_holds(self):
        for one, other in itertools.product(rows_up_to(7), repeat=2):
            held = cells(other) <= cells(one)
            self.assertIs(Kind(one).holds(Kind(other)), held, (one, other))
            self.assertIs(Kind(one).turned.holds(Kind(other).turned), held, (one, other))

    def test_tops(self):
        for one, other in itertools.product(rows_up_to(8), repeat=2):
            if sum(one) == sum(other):
                ends = range(1, sum(one) + 1)
                topped = all(sum(one[:k]) >= sum(other[:k]) for k in ends)
                self.assertIs(Kind(one).tops(Kind(other)), topped, (one, other))
                self.assertIs(Kind(other).turned.tops(Kind(one).turned), topped, (one, other))
                if topped:
                    self.assertLessEqual(Kind(one).slant, Kind(other).slant)
                    self.assertTrue(one == other or Kind(one) < Kind(other))

    def test_the_least_kinds_that_do_not_top_each_other(self):
        one, other = Kind((4, 1, 1)), Kind((3, 3))
        self.assertEqual((one.tops(other), other.tops(one), one.tops(one)), (False, False, True))

    def test_wrong_kinds(self):
        for value in odd_values() + (0, 1, "[]", [2, 1], (2, 1)):
            if not isinstance(value, Kind):
                for call in (Kind((2,)).holds, Kind((2,)).tops, Kind((2,)).over, Kind((12,)).over):
                    self.assertEqual(error_of(call, value), ("InvalidKind",), value)

    def test_tops_of_unlike_sizes(self):
        self.assertEqual(error_of(Kind((3, 1)).tops, Kind((2,))), ("Refused", ("size", 4, 2)))
        self.assertEqual(error_of(Kind().tops, Kind((12,))), ("Refused", ("size", 0, 12)))
        self.assertEqual(Kind().tops(Kind()), True)

    def test_joined_and_added(self):
        for one, other in itertools.product(SOME, repeat=2):
            a, b = Kind(one), Kind(other)
            joined, added = a + b, a.over(b)
            self.assertEqual(joined.numbers, tuple(sorted(one + other, reverse=True)))
            self.assertEqual(added.numbers, tuple(x + y for x, y in itertools.zip_longest(one, other, fillvalue=0)))
            self.assertEqual(joined.turned, a.turned.over(b.turned))
            self.assertEqual(added.slant, a.slant + b.slant)
            both = sum(x * y for x, y in zip(a.turned, b.turned))
            self.assertEqual(joined.slant, a.slant + b.slant + both)
            self.assertEqual((a + b, a.over(b)), (b + a, b.over(a)))

    def test_joined_and_added_too_great(self):
        for one, other in (((12,), (1,)), ((6, 1), (6,)), ((1,) * 12, (1,)), ((12,), (12,)), ((7,), (3, 3))):
            self.assertEqual(error_of(lambda: Kind(one) + Kind(other)), ("TooMany", 12))
            self.assertEqual(error_of(Kind(one).over, Kind(other)), ("TooMany", 12))
        self.assertEqual((Kind((6,)) + Kind((6,)), Kind((6,)).over(Kind((6,)))), (Kind((6, 6)), Kind((12,))))
        self.assertEqual((Kind((12,)) + Kind(), Kind().over(Kind((12,)))), (Kind((12,)), Kind((12,))))

    def test_operands_of_other_kinds(self):
        for value in odd_values() + (0, 1, 1.5, [2], (2,), "[2]"):
            if not isinstance(value, Kind):
                self.assertEqual(error_of(lambda: Kind((12,)) + value), ("TypeError",), value)
                self.assertEqual(error_of(lambda: Kind((2,)) < value), ("TypeError",), value)
        for call in (lambda a, b: a - b, lambda a, b: a * b, lambda a, b: a | b, lambda a, b: a / b):
            self.assertEqual(error_of(call, Kind((2,)), Kind((1,))), ("TypeError",))

    def test_equal(self):
        for one, other in itertools.product(rows_up_to(5), repeat=2):
            self.assertIs(Kind(one) == Kind(other), one == other)
            self.assertIs(Kind(one) != Kind(other), one != other)
        for value in odd_values() + (0, 1, (1, 1), [1, 1], "[1 1]", 1.5, object(), Poly((1, 1))):
            self.assertIs(Kind((1, 1)) == value, False, value)
            self.assertIs(Kind((1, 1)) != value, True, value)
            self.assertIs(value in (Kind((1, 1)),), False, value)

    def test_order(self):
        for one, other in itertools.product(rows_up_to(7), repeat=2):
            told = sum(one) < sum(other) or sum(one) == sum(other) and one > other
            self.assertIs(Kind(one) < Kind(other), told, (one, other))
            self.assertIs(Kind(other) > Kind(one), told, (one, other))
        self.assertEqual([kind.numbers for kind in sorted([Kind(row) for row in ALL[::-1]])], ALL)


class Opposites(unittest.TestCase):
    def test_cells_that_are_left(self):
        for row in rows_up_to(8):
            for wide, high in itertools.product(range(7), repeat=2):
                if len(row) <= wide and max(row, default=0) <= high and wide * high - sum(row) <= 12:
                    block = set(itertools.product(range(wide), range(high)))
                    left = {(wide - 1 - i, high - 1 - j) for i, j in block - cells(row)}
                    made = Kind(row).opposite(wide, high)
                    self.assertEqual(made.numbers, row_of(left), (row, wide, high))
                    self.assertEqual(made.opposite(wide, high), Kind(row))

    def test_outside(self):
        for row, wide, high in (
            ((2, 1), 1, 5), ((2, 1), 2, 1), ((1,), 0, 1), ((1,), 1, 0), ((1,), 0, 0), ((12,), 12, 11),
            ((1,) * 12, 11, 12), ((3,), 12, 2),
        ):
            self.assertEqual(error_of(Kind(row).opposite, wide, high), ("Refused", ("outside",)), row)

    def test_edges(self):
        for wide, high in ((0, 0), (0, 12), (12, 0)):
            self.assertEqual(Kind().opposite(wide, high), Kind())
        self.assertEqual(Kind().opposite(12, 1), Kind((1,) * 12))
        self.assertEqual(Kind((2, 2)).opposite(2, 2), Kind())
        self.assertEqual(Kind((12,)).opposite(2, 12), Kind((12,)))
        self.assertEqual(Kind((2, 1)).opposite(3, 3), Kind((3, 2, 1)))
        self.assertEqual(Kind((4, 4, 4)).opposite(4, 6), Kind((6, 2, 2, 2)))

    def test_too_great(self):
        for row, wide, high in (((), 1, 12), ((), 12, 1), ((), 3, 4), ((1, 1), 2, 7), ((12,), 2, 12)):
            self.assertEqual(Kind(row).opposite(wide, high).size, 12)
        for row, wide, high in (((), 12, 12), ((), 2, 7), ((1,), 2, 7), ((12,), 12, 12), ((1,) * 12, 12, 3)):
            self.assertEqual(error_of(Kind(row).opposite, wide, high), ("TooMany", 12))

    def test_wrong_numbers(self):
        for value in odd_values() + (-1, 13, NINES):
            for kind in (Kind(), Kind((12,))):
                self.assertTrue(is_like(error_of(kind.opposite, value, 3), ("InvalidNumber", value)), value)
                self.assertTrue(is_like(error_of(kind.opposite, 3, value), ("InvalidNumber", value)), value)
        self.assertEqual(error_of(Kind((2,)).opposite, 13, -1), ("InvalidNumber", 13))
        self.assertEqual(error_of(Kind((2,)).opposite, 0, 13), ("InvalidNumber", 13))
        self.assertTrue(is_like(error_of(Kind((2,)).opposite, False, True), ("InvalidNumber", False)))


class Strings(unittest.TestCase):
    def test_strings_are_read_back(self):
        for row in ALL:
            self.assertEqual(str(Kind(row)), text_of(row))
            self.assertTrue(is_like(Kind.read(text_of(row)).numbers, row), row)

    def test_told_strings(self):
        for text, index in (
            ("", 0), ("[", 1), ("]", 0), (" []", 0), ("[ ", 1), ("[ ]", 1), ("[0", 1), ("[]]", 2), ("[] ", 2),
            ("[1", 2), ("[10", 3), ("[13", 2), ("[12", 3), ("[12 ", 3), ("[11 ", 4), ("[11 2", 4), ("[11 1", 5),
            ("[1 2", 3), ("[1 10", 4), ("[2 10", 4), ("[10 1", 5), ("[10 11", 5), ("[10 3", 4), ("[3 4]", 3),
            ("[3  1]", 3), ("[3 ]", 3), ("[3 1 ]", 5), ("[3,1]", 2), ("[3 1", 4), ("[3 1]]", 5), ("[3 1] ", 5),
            ("[3 01]", 3), ("[03]", 1), ("[-1]", 1), ("[+1]", 1), ("(3 1)", 0), ("3 1", 0), ("[a]", 1), ("[3 1)", 4),
            ("[" + "1 " * 11 + "1", 24), ("[" + "1 " * 12, 24), ("[" + "1 " * 13 + "1]", 24), ("[6 6 ", 4),
            ("[20]", 2), ("[100]", 3), ("[2 1\n]", 4), ("\n", 0), ("[" * 3000, 1), ("[" + "9" * 2999, 2),
        ):
            self.assertEqual(error_of(Kind.read, text), ("ParseError", index), text)

    def test_each_cut_and_each_wrong_character(self):
        texts = [text_of(row) for row in ALL]
        starts = {text[:end] for text in texts for end in range(len(text) + 1)}
        for text in texts:
            for end in range(len(text)):
                self.assertEqual(error_of(Kind.read, text[:end]), ("ParseError", end), text[:end])
                for sign in "0123456789 []-,x\n":
                    if text[:end] + sign not in starts:
                        wrong = text[:end] + sign + text[end:]
                        self.assertEqual(error_of(Kind.read, wrong), ("ParseError", end), wrong)
            self.assertEqual(error_of(Kind.read, text + "]"), ("ParseError", len(text)))

    def test_reading_takes_few_steps(self):
        # A step is a line that is run. To list all kinds, or to try each start of their strings, takes thousands.
        for text in (text_of((1,) * 12), "[12]", "[" + "1 " * 11 + "12", "[" + "1 " * 11 + "1"):
            self.assertLess(lines_run(lambda: error_of(Kind.read, text)), 400, text)

    def test_what_is_no_string(self):
        for value in odd_values() + (0, 1, b"[]", ["[", "]"], ("[]",), Kind(), [], None):
            if not isinstance(value, str):
                self.assertEqual(error_of(Kind.read, value), ("InvalidOperation",), value)


class Lasting(unittest.TestCase):
    def test_nothing_changes(self):
        kind, other = Kind((3, 1)), Kind((2, 2))
        calls = (
            lambda: kind + other, lambda: kind.over(other), lambda: kind.tops(other), lambda: kind.holds(other),
            lambda: kind.opposite(3, 3), lambda: kind.turned, lambda: kind.repeats, lambda: kind < other,
        )
        for call in calls:
            self.assertEqual(call(), call())
            self.assertEqual((kind.numbers, other.numbers), ((3, 1), (2, 2)))
        for name in ("numbers", "size", "rank", "height", "slant", "turned", "repeats", "is_flat", "is_line"):
            with self.assertRaises(AttributeError):
                setattr(kind, name, 5)


if __name__ == "__main__":
    unittest.main()
