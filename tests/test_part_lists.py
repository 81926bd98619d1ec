"""The list of all parts, one after the other: [4.2], and the first ones without the others."""

import unittest

from primekinds.group.groups import Group
from primekinds.group.least import least_table, no_table, table_members
from primekinds.group.listing import due_over, tables_of_index
from primekinds.group.parts import parts
from primekinds.kind.kinds import Kind
from tests.helper import all_parts, error_of, first_of, groups_up_to, lines_run, odd_ones

# Groups with many parts, and others with few.
GREAT = ((2, (1,) * 6), (3, (1,) * 5), (2, (2, 2, 2, 2)), (2, (3, 2, 1, 1, 1)))
SMALL = groups_up_to(27) + [(2, (4, 2)), (2, (3, 2, 1)), (7, (1, 1)), (2, (2, 1, 1, 1)), (3, (2, 1, 1)), (2, (3, 3))]


def listed(prime, numbers):
    """The pairs of the least table and the members of all parts, ascending."""
    orders = Group(prime, Kind(numbers)).orders
    told = all_parts(prime, numbers)
    return sorted((least_table(orders, sorted(part)), tuple(sorted(part))) for part in told)


class AllParts(unittest.TestCase):
    def test_plain_listing(self):
        for prime, row in SMALL:
            got = [(part.table, tuple(part)) for part in parts(Group(prime, Kind(row)))]
            self.assertEqual(got, listed(prime, row), (prime, row))

    def test_plain_listing_of_many(self):
        for prime, row in ((2, (1,) * 6), (3, (1,) * 4), (2, (2, 2, 1, 1)), (2, (2, 1, 1, 1, 1)), (5, (1, 1, 1))):
            group, told = Group(prime, Kind(row)), listed(prime, row)
            self.assertEqual([(part.table, tuple(part)) for part in parts(group)], told)
            for many in (1, 2, 3, 10, 66, len(told) - 1, len(told), len(told) + 1):
                got = [(part.table, tuple(part)) for part in first_of(parts(group), many)]
                self.assertEqual(got, told[:many])

    def test_two_lists_at_once(self):
        group = Group(2, Kind((2, 1, 1)))
        told = [part.table for part in parts(group)]
        one, other = parts(group), parts(Group(2, Kind((2, 1, 1))))
        got = [next(one).table for _ in range(5)]
        pairs = [(first.table, second.table) for first, second in zip(one, other)]
        self.assertEqual(got, told[:5])
        self.assertEqual(pairs, list(zip(told[5:], told)))


class FirstParts(unittest.TestCase):
    def test_the_first_ones_take_a_small_part_of_the_steps(self):
        for prime, row in GREAT:
            group = Group(prime, Kind(row))
            every = lines_run(lambda: list(parts(group)))
            for many in (1, 3, 10):
                few = lines_run(lambda: first_of(parts(group), many))
                self.assertLess(few * 30, every, (prime, row, many))

    def test_the_first_ones_take_about_as_many_steps_for_few_parts_and_for_many(self):
        few = lines_run(lambda: first_of(parts(Group(2, Kind((1, 1, 1)))), 3))
        many = lines_run(lambda: first_of(parts(Group(2, Kind((1,) * 6))), 3))
        self.assertLess(many, 6 * few)

    def test_errors_come_with_the_first_one(self):
        for row in ((1,) * 7, (2, 2, 2, 1, 1), (2, 1, 1, 1, 1, 1)):
            generator = parts(Group(2, Kind(row)))
            self.assertEqual(error_of(next, generator), ("TooMany", 3000))
            self.assertEqual(error_of(next, generator), ("StopIteration",))
        for value in odd_ones(Group):
            generator = parts(value)
            self.assertEqual(error_of(next, generator), ("InvalidGroup",))


class OneSize(unittest.TestCase):
    def test_parts_of_a_size_over_a_part(self):
        for prime, row in SMALL[::2] + [(2, (1, 1, 1, 1)), (3, (2, 2)), (2, (2, 2, 2))]:
            orders = Group(prime, Kind(row)).orders
            every = [(table, set(members)) for table, members in listed(prime, row)]
            for lower, inner in every[::3] + every[:1]:
                for power in range(sum(row) + 1):
                    told = [table for table, part in every if inner <= part and len(part) == prime ** power]
                    index = prime ** (sum(row) - power)
                    if told:
                        got = list(tables_of_index(prime, orders, {}, due_over(lower), index))
                        self.assertEqual(got, told)

    def test_great_groups(self):
        orders = (2,) * 8
        for index, power in ((2, 7), (128, 1), (256, 0), (1, 8)):
            got = list(tables_of_index(2, orders, {}, due_over(no_table(orders)), index))
            self.assertEqual(len(got), 255 if index in (2, 128) else 1)
            self.assertEqual(got, sorted(set(got)))
            for table in got[::17]:
                self.assertEqual(len(table_members(orders, table)), 2 ** power)


if __name__ == "__main__":
    unittest.main()
