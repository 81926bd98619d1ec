"""Groups and elements: [0.10], [0.15], [3.1] to [3.6]."""

import itertools
import unittest

from primekinds.group.groups import (
    GROUP_PRIMES, MAX_ELEMENTS, Group, count_at_least, count_with, height_rows, is_leading, leading, order_count,
)
from primekinds.kind.kinds import Kind
from tests.helper import (
    all_images, elements_of, error_of, groups_up_to, is_like, led_to, odd_ones, odd_values, paper_values, plus,
    row_of_heights, rows_up_to, times,
)

NINES = 10 ** 60 - 1
SMALL = groups_up_to(32)
MIDDLE = groups_up_to(64)


def is_at_least(row, other):
    """Whether a height row is at least another one, as [3.2] tells it."""
    return len(row) <= len(other) and all(x >= y for x, y in zip(row, other))


def ascending_rows(most, length):
    """All ascending tuples of integers below `most`."""
    return [row for many in range(length + 1) for row in itertools.combinations(range(most), many)]


class Making(unittest.TestCase):
    def test_constants(self):
        self.assertEqual((GROUP_PRIMES, MAX_ELEMENTS), ((2, 3, 5, 7), 256))

    def test_all_groups_that_can_be_made(self):
        many = 0
        for prime, row in itertools.product(GROUP_PRIMES, rows_up_to(9)):
            if prime ** sum(row) <= 256:
                many += 1
                group = Group(prime, Kind(row))
                self.assertEqual((group.prime, group.kind, group.size), (prime, Kind(row), prime ** sum(row)))
                self.assertEqual(group.orders, tuple(prime ** number for number in row))
                self.assertEqual((group.zero, len(group)), ((0,) * len(row), len(row)))
                told = tuple(tuple(int(i == j) for j in range(len(row))) for i in range(len(row)))
                self.assertTrue(is_like(group.base, told))
            else:
                self.assertEqual(error_of(Group, prime, Kind(row)), ("TooMany", 256))
        self.assertEqual(many, 67 + 19 + 7 + 4)

    def test_bounds(self):
        for prime, row in ((2, (8,)), (3, (5,)), (5, (3,)), (7, (2,))):
            self.assertLessEqual(Group(prime, Kind(row)).size, 256)
            longer = Kind((row[0] + 1,))
            self.assertEqual(error_of(Group, prime, longer), ("TooMany", 256))
        self.assertEqual(Group(2, Kind((4, 4))).size, 256)

    def test_wrong_arguments(self):
        for value in odd_values() + (0, 1, -2, 4, 9, 11, 97, NINES):
            for kind in (Kind((1,)), Kind((12,)), 5):
                self.assertTrue(is_like(error_of(Group, value, kind), ("InvalidNumber", value)), value)
        for value in odd_ones(Kind) + [1, (2, 1), "[2 1]"]:
            self.assertEqual(error_of(Group, 2, value), ("InvalidKind",))

    def test_the_group_with_one_element(self):
        for prime in GROUP_PRIMES:
            group = Group(prime, Kind())
            told = (1, (), (), (), 0, [()], f"group of [] at {prime}")
            got = (group.size, group.zero, group.base, group.orders, len(group), list(group.members()), str(group))
            self.assertEqual(got, told)
            self.assertEqual((group.plus((), ()), group.times((), 5), () in group), ((), (), True))
            self.assertEqual((group.order_of(()), group.height_of(()), group.height_row_of(())), (0, None, ()))

    def test_signs(self):
        made = [Group(prime, Kind(row)) for prime, row in SMALL]
        for one, other in itertools.product(range(len(made)), repeat=2):
            self.assertIs(made[one] == made[other], one == other)
            self.assertIs(made[one] != made[other], one != other)
        group = Group(2, Kind((2, 1)))
        self.assertEqual((group, str(group)), (Group(2, Kind((2, 1))), "group of [2 1] at 2"))
        for value in odd_values() + (Kind((2, 1)), (2, (2, 1)), "group of [2 1] at 2", 8):
            self.assertIs(group == value, False)
        for call in (lambda: iter(group), lambda: list(group), lambda: group + group, lambda: group < group):
            self.assertEqual(error_of(call), ("TypeError",))

    def test_nothing_changes(self):
        group = Group(2, Kind((2, 1)))
        for name in ("prime", "kind", "size", "zero", "base", "orders"):
            self.assertEqual(getattr(group, name), getattr(group, name))
            with self.assertRaises(AttributeError):
                setattr(group, name, 5)


class Entries(unittest.TestCase):
    def test_members(self):
        for prime, row in groups_up_to(256):
            group = Group(prime, Kind(row))
            self.assertTrue(is_like(list(group.members()), elements_of(prime, row)), (prime, row))
            self.assertIsNot(group.members(), group.members())
        members = Group(3, Kind((1, 1))).members()
        self.assertEqual([next(members), next(members)], [(0, 0), (0, 1)])

    def test_sums_and_multiples(self):
        for prime, row in SMALL:
            group, some = Group(prime, Kind(row)), elements_of(prime, row)
            for one, other in itertools.product(some, repeat=2):
                self.assertEqual(group.plus(one, other), plus(prime, row, one, other))
            for one in some:
                total = group.zero
                for many in range(10):
                    self.assertTrue(is_like(group.times(one, many), total))
                    self.assertEqual(group.plus(group.times(one, -many), total), group.zero)
                    total = group.plus(total, one)
                self.assertEqual(group.times(one, NINES), group.times(one, NINES % group.size))

    def test_in(self):
        group = Group(2, Kind((2, 1)))
        some = [(x, y) for x in range(-1, 6) for y in range(-1, 4)]
        self.assertEqual([one for one in some if one in group], elements_of(2, (2, 1)))
        for value in odd_values() + (
            (0,), (0, 0, 0), [0, 0], (1, True), (False, 0), (0, None), ("0", 0), (10 ** 70, 0), (0, -10 ** 70), "00",
            ((0, 0),), {0: 0}, (0.0, 0),
        ):
            self.assertIs(value in group, False, value)

    def test_wrong_elements(self):
        group = Group(2, Kind((2, 1)))
        for value in odd_values() + ((4, 0), (0, 2), (-1, 0), (0,), (0, 0, 0), [0, 0], (1, True), (0, NINES)):
            for call in (
                lambda: group.plus(value, (9, 9)), lambda: group.plus((0, 0), value), lambda: group.times(value, "x"),
                lambda: group.plus(value, (0, 0)), lambda: group.times(value, 1),
                lambda: group.order_of(value), lambda: group.height_of(value), lambda: group.height_row_of(value),
            ):
                self.assertEqual(error_of(call), ("InvalidElement",), value)
        for value in odd_values():
            self.assertTrue(is_like(error_of(group.times, (1, 1), value), ("InvalidNumber", value)), value)


class Heights(unittest.TestCase):
    def test_orders_and_heights(self):
        for prime, row in MIDDLE:
            group = Group(prime, Kind(row))
            for one in elements_of(prime, row):
                heights = row_of_heights(prime, row, one)
                self.assertTrue(is_like(group.height_row_of(one), heights), (prime, row, one))
                self.assertEqual(group.order_of(one), len(heights))
                self.assertEqual(group.height_of(one), heights[0] if heights else None)
                self.assertEqual(list(heights), sorted(set(heights)))
                zero = [k for k in range(9) if times(prime, row, one, prime ** k) == group.zero]
                self.assertEqual(group.order_of(one), zero[0])

    def test_rows_that_come(self):
        for prime, row in MIDDLE:
            told = sorted({row_of_heights(prime, row, one) for one in elements_of(prime, row)})
            self.assertTrue(is_like(height_rows(Kind(row)), tuple(told)), (prime, row))
        self.assertEqual((height_rows(Kind()), height_rows(Kind((1,) * 12))), (((),), ((), (0,))))
        self.assertEqual(height_rows(Kind((12,))), tuple(sorted(tuple(range(k, 12)) for k in range(13))))

    def test_counts(self):
        for prime, row in groups_up_to(49) + [(2, (3, 2, 1)), (2, (4, 2)), (2, (2, 2, 2)), (3, (3, 1)), (5, (2, 1))]:
            kind = Kind(row)
            got = [row_of_heights(prime, row, one) for one in elements_of(prime, row)]
            for heights in ascending_rows(max(row, default=0) + 1, 4):
                self.assertEqual(count_with(kind, heights)(prime), got.count(heights), (prime, row, heights))
                many = sum(is_at_least(one, heights) for one in got)
                self.assertEqual(count_at_least(kind, heights)(prime), many, (prime, row, heights))

    def test_sums_of_counts(self):
        for row in rows_up_to(7):
            kind = Kind(row)
            polys = {heights: count_with(kind, heights) for heights in height_rows(kind)}
            for number in (-1, 2, 3, 97):
                total = sum(poly(number) for poly in polys.values())
                self.assertEqual(total, number ** kind.size)
            for heights in ascending_rows(4, 3):
                some = [poly(5) for other, poly in polys.items() if is_at_least(other, heights)]
                self.assertEqual(count_at_least(kind, heights)(5), sum(some), (row, heights))

    def test_great_kinds(self):
        twelve = tuple(range(12))
        self.assertEqual(str(count_with(Kind((12,)), twelve)), "p^12 - p^11")
        self.assertEqual(str(count_at_least(Kind((12,)), twelve)), "p^12")
        self.assertEqual(str(count_with(Kind((11, 1)), twelve)), "0")
        self.assertEqual(str(count_with(Kind((1,) * 12), (0,))), "p^12 - 1")
        self.assertEqual(str(count_with(Kind((6, 4, 2)), (0, 1, 3, 5))), "p^9 - 3p^8 + 3p^7 - p^6")
        self.assertEqual(str(count_at_least(Kind((6, 6)), (11,))), "1")
        self.assertEqual((str(count_with(Kind(), ())), str(count_with(Kind(), (0,)))), ("1", "0"))

    def test_order_counts(self):
        for prime, row in MIDDLE:
            zero = (0,) * len(row)
            for many in range(13):
                told = sum(times(prime, row, one, prime ** many) == zero for one in elements_of(prime, row))
                self.assertEqual(order_count(Kind(row), many)(prime), told)
        self.assertEqual(str(order_count(Kind((6, 3, 2, 1)), 4)), "p^10")
        self.assertEqual(str(order_count(Kind((1,) * 12), 12)), "p^12")

    def test_wrong_rows(self):
        kind = Kind((3, 1))
        long_row = tuple(range(12))
        self.assertEqual(str(count_with(kind, long_row)), "0")
        for value in odd_ones(tuple) + [
            0, [0], "0", (12,), (0, 12), (-1,), (0, 0), (1, 0), (0, 2, 1), (True,), (0, True), (None,), (0, None),
            long_row + (12,), (0,) * 13, (NINES,), ((0,),), (0, 10 ** 70),
        ]:
            for call in (count_with, count_at_least):
                self.assertEqual(error_of(call, kind, value), ("InvalidOperation",), value)
        for value in odd_ones(Kind) + [(3, 1), 3]:
            self.assertEqual(error_of(height_rows, value), ("InvalidKind",))
            self.assertEqual(error_of(order_count, value, -1), ("InvalidKind",))
            for call in (count_with, count_at_least):
                self.assertEqual(error_of(call, value, (1, 0)), ("InvalidKind",))
        for value in odd_values() + (-1, 13, NINES):
            self.assertTrue(is_like(error_of(order_count, kind, value), ("InvalidNumber", value)))


class Leading(unittest.TestCase):
    def test_all_own_maps(self):
        for prime, row in groups_up_to(16) + [(2, (3, 1, 1)), (3, (2, 1)), (5, (2,)), (2, (3, 2)), (2, (4, 1))]:
            group, zero = Group(prime, Kind(row)), (0,) * len(row)
            images = all_images(prime, row, row)
            for one in elements_of(prime, row):
                ends = {led_to(prime, row, some, one) for some in images}
                for other in elements_of(prime, row):
                    paper = leading(group, one, other)
                    self.assertIs(is_leading(group, one, other, paper), True, (prime, row, one, other))
                    self.assertEqual(paper[0], "images" if other in ends else "height")
                    rows = [row_of_heights(prime, row, x) for x in (one, other)]
                    self.assertIs(is_at_least(rows[1], rows[0]), other in ends)
                    for k in range(6):
                        x, y = (times(prime, row, some, prime ** k) for some in (one, other))
                        low = y != zero and (x == zero or group.height_of(y) < group.height_of(x))
                        self.assertIs(is_leading(group, one, other, ("height", k)), low)

    def test_undoable_own_maps(self):
        for prime, row in ((2, (2, 1)), (2, (3, 1)), (2, (1, 1, 1)), (3, (2, 1)), (2, (2, 2)), (3, (1, 1))):
            undoable = [
                some for some in all_images(prime, row, row)
                if len({led_to(prime, row, some, one) for one in elements_of(prime, row)}) == prime ** sum(row)
            ]
            for one in elements_of(prime, row):
                ends = {led_to(prime, row, some, one) for some in undoable}
                told = {
                    other for other in elements_of(prime, row)
                    if row_of_heights(prime, row, other) == row_of_heights(prime, row, one)
                }
                self.assertEqual(ends, told)

    def test_which_images_are_taken(self):
        for prime, row in ((2, (2, 1)), (2, (2,)), (3, (1, 1)), (2, (1, 1))):
            group, some = Group(prime, Kind(row)), elements_of(prime, row)
            right = all_images(prime, row, row)
            for one, other in itertools.product(some, repeat=2):
                told = [images for images in right if led_to(prime, row, images, one) == other]
                got = [
                    images for images in itertools.product(some, repeat=len(row))
                    if is_leading(group, one, other, ("images", images))
                ]
                self.assertEqual(got, told)

    def test_great_groups(self):
        for prime, row in (
            (2, (1,) * 8), (2, (4, 2, 1, 1)), (2, (8,)), (3, (3, 1, 1)), (5, (2, 1)), (7, (1, 1)), (2, (5, 2, 1)),
        ):
            group, some = Group(prime, Kind(row)), elements_of(prime, row)
            for one, other in itertools.product(some[::23], some[::17]):
                paper = leading(group, one, other)
                self.assertIs(is_leading(group, one, other, paper), True)
                at_least = is_at_least(group.height_row_of(other), group.height_row_of(one))
                self.assertEqual(paper[0], "images" if at_least else "height")

    def test_values_of_every_sort(self):
        group = Group(2, Kind((2, 1)))
        for value in paper_values() + [
            ("images",), ("images", ((1, 0),)), ("images", ((1, 0), (0, 1), (0, 0))), ("images", [(1, 0), (0, 1)]),
            ("images", ((1, 0), [0, 1])), ("images", ((True, 0), (0, 1))), ("images", ((1, 0), (0, 1)), 0),
            ["images", ((1, 0), (0, 1))], ("images", ((5, 0), (0, 1))), ("images", ((1, 0), (1, 1))),
            ("height", True), ("height", -1), ("height", 10 ** 70), ("Images", ((1, 0), (0, 1))), ((), ()),
        ]:
            told = value == ("images", ((0, 0), (0, 0)))
            self.assertIs(is_leading(group, (1, 1), (0, 0), value), told, value)
            told = value[1:] == (0,) and value[0] == "height" if isinstance(value, tuple) else False
            self.assertIs(is_leading(group, (0, 0), (1, 1), value), told or is_like(value, ("height", 1)), value)
        self.assertIs(is_leading(group, (1, 0), (1, 0), ("images", ((1, 0), (0, 1)))), True)

    def test_one_element(self):
        group = Group(5, Kind())
        self.assertEqual(leading(group, (), ()), ("images", ()))
        self.assertEqual([is_leading(group, (), (), value) for value in (("images", ()), ("height", 0))], [True, False])

    def test_wrong_arguments(self):
        group = Group(2, Kind((2, 1)))
        for value in odd_ones(Group) + [2, Kind((2, 1))]:
            self.assertEqual(error_of(leading, value, 5, 5), ("InvalidGroup",))
            self.assertEqual(error_of(is_leading, value, 5, 5, None), ("InvalidGroup",))
        for value in odd_values() + ((4, 0), (0,), [0, 0], (1, True)):
            for call in (
                lambda: leading(group, value, (0, 0)), lambda: leading(group, (0, 0), value),
                lambda: is_leading(group, value, (0, 0), None), lambda: is_leading(group, (0, 0), value, ("height", 0)),
            ):
                self.assertEqual(error_of(call), ("InvalidElement",), value)

    def test_what_is_not_true(self):
        # Both elements vanish by 2, and no own map leads the one to the other.
        group = Group(2, Kind((2, 1)))
        self.assertEqual((group.order_of((2, 0)), group.order_of((0, 1))), (1, 1))
        self.assertEqual(leading(group, (2, 0), (0, 1))[0], "height")


if __name__ == "__main__":
    unittest.main()
