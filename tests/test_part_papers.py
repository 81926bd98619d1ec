"""Papers on elements of parts, and on parts beside parts: [0.16], [4.5] to [4.8]."""

import itertools
import unittest

from primekinds.group.groups import Group
from primekinds.group.parts import (
    Part, beside_paper, is_beside_paper, is_member_paper, member_paper, paired, parts,
)
from primekinds.kind.kinds import Kind
from tests.helper import (
    all_parts, elements_of, error_of, groups_up_to, is_like, made_by, odd_ones, odd_values, paper_values, plus,
    row_of_heights, times,
)

NINES = 10 ** 60 - 1
SMALL = groups_up_to(16)
SOME = SMALL + [(2, (3, 2)), (2, (3, 1, 1)), (3, (2, 1)), (5, (2,)), (5, (1, 1)), (7, (1, 1))]


def sum_of_rows(group, table, multipliers):
    total = group.zero
    for line, many in zip(table, multipliers):
        total = tuple((x + many * y) % order for x, y, order in zip(total, line, group.orders))
    return total


def heights_in(prime, row, part):
    """The greatest h for each element of a part such that it is p ** h times one of the part."""
    sets = [{times(prime, row, x, prime ** h) for x in part} for h in range(max(row, default=0) + 1)]
    return {one: max(h for h, found in enumerate(sets) if one in found) for one in part}


class Members(unittest.TestCase):
    def test_all_elements(self):
        for prime, row in SOME:
            group = Group(prime, Kind(row))
            for part in parts(group):
                for one in elements_of(prime, row):
                    word, kept = paper = member_paper(part, one)
                    self.assertIs(is_member_paper(part, one, paper), True, (prime, row, part.table, one))
                    self.assertEqual(word, "sum" if one in set(part) else "mute")
                    if word == "sum":
                        self.assertEqual((len(kept), sum_of_rows(group, part.table, kept)), (len(row), one))
                    else:
                        self.assertTrue(all(paired(group, kept, other) == 0 for other in part))
                        self.assertNotEqual(paired(group, kept, one), 0)

    def test_which_papers_are_taken(self):
        for prime, row in ((2, (2, 1)), (2, (1, 1)), (3, (1, 1)), (2, (3,)), (2, (2, 2)), (3, (2,))):
            group, some = Group(prime, Kind(row)), elements_of(prime, row)
            for part in parts(group):
                for one in some:
                    for other in some:
                        mute = all(paired(group, other, x) == 0 for x in part) and paired(group, other, one) != 0
                        self.assertIs(is_member_paper(part, one, ("mute", other)), mute)
                    for many in itertools.product(range(-2, 4), repeat=len(row)):
                        right = sum_of_rows(group, part.table, many) == one
                        self.assertIs(is_member_paper(part, one, ("sum", many)), right)

    def test_long_multipliers(self):
        group = Group(2, Kind((2, 1)))
        part = Part(group, ((1, 1),))
        for many in (NINES, -NINES, 10 ** 59, 4, -4):
            one = sum_of_rows(group, part.table, (many, 7 - many))
            self.assertIs(is_member_paper(part, one, ("sum", (many, 7 - many))), abs(7 - many) <= NINES)
            self.assertIs(is_member_paper(part, sum_of_rows(group, part.table, (many, 0)), ("sum", (many, 0))), True)
        for many in (10 ** 60, -10 ** 60, 4 * 10 ** 60, 10 ** 99):
            self.assertIs(is_member_paper(part, (0, 0), ("sum", (many, 0))), False)
            self.assertIs(is_member_paper(part, (0, 0), ("sum", (0, many))), False)

    def test_values_of_every_sort(self):
        group = Group(2, Kind((2, 1)))
        part = Part(group, ((1, 1),))
        for value in paper_values() + [
            ("sum", (1, 0), 0), ("sum", [1, 0]), ("sum", (True, 0)), ("sum", (1, False)), ("sum", (1,)),
            ["sum", (1, 0)],
            ("sum", (1, 0, 0)), ("sum", (1, None)), ("Sum", (1, 0)), ("sum",), ("mute", (2, 1)), ("mute", (1, True)),
        ]:
            self.assertIs(is_member_paper(part, (1, 1), value), False, value)
        self.assertIs(is_member_paper(part, (1, 1), ("sum", (1, 0))), True)
        for value in paper_values() + [("mute", (2, True)), ("mute", [2, 1]), ("mute", (2, 1), 0), ("mute", (6, 1))]:
            self.assertIs(is_member_paper(part, (1, 0), value), False, value)
        self.assertIs(is_member_paper(part, (1, 0), ("mute", (2, 1))), True)
        whole = Part(Group(5, Kind()), ())
        self.assertEqual(member_paper(whole, ()), ("sum", ()))
        self.assertEqual([is_member_paper(whole, (), value) for value in (("sum", ()), ("mute", ()))], [True, False])

    def test_wrong_arguments(self):
        part = Part(Group(2, Kind((2, 1))), ((1, 1),))
        for value in odd_ones(Part) + [part.table]:
            self.assertEqual(error_of(member_paper, value, 5), ("InvalidPart",))
            self.assertEqual(error_of(is_member_paper, value, 5, None), ("InvalidPart",))
        for value in odd_values() + ((4, 0), (0,), [0, 0], (1, True)):
            self.assertEqual(error_of(member_paper, part, value), ("InvalidElement",))
            self.assertEqual(error_of(is_member_paper, part, value, ("sum", (0, 0))), ("InvalidElement",))


class Beside(unittest.TestCase):
    def test_all_parts(self):
        for prime, row in SOME + [(2, (2, 2, 1)), (2, (4, 1)), (3, (2, 2)), (3, (3, 1))]:
            group = Group(prime, Kind(row))
            sets = all_parts(prime, row)
            standing = {one: row_of_heights(prime, row, one) for one in elements_of(prime, row)}
            for part in parts(group):
                told = set(part)
                beside = [
                    other for other in sets if len(other) * len(told) == group.size and len(told & other) == 1
                ]
                word, kept = paper = beside_paper(part)
                self.assertIs(is_beside_paper(part, paper), True, (prime, row, part.table))
                self.assertEqual(word, "beside" if beside else "higher")
                within = heights_in(prime, row, told)
                higher = [one for one in sorted(told) if any(one) and standing[one][0] > within[one]]
                self.assertEqual(bool(beside), not higher)
                if word == "beside":
                    self.assertIn(frozenset(kept), beside)
                    self.assertEqual((kept.kind, (part & kept).table), (part.rest, Part(group, ()).table))
                    self.assertEqual(len(part | kept), group.size)
                else:
                    self.assertIn(kept, higher)

    def test_which_papers_are_taken(self):
        for prime, row in ((2, (2, 1)), (2, (1, 1)), (3, (1, 1)), (2, (3, 1)), (2, (2, 2)), (2, (3,)), (2, (2, 1, 1))):
            got = list(parts(Group(prime, Kind(row))))
            for part in got:
                within = heights_in(prime, row, set(part))
                for one in elements_of(prime, row):
                    right = any(one) and one in within and row_of_heights(prime, row, one)[0] > within[one]
                    self.assertIs(is_beside_paper(part, ("higher", one)), right)
                for other in got:
                    right = len(set(part) & set(other)) == 1 and len(part) * len(other) == prime ** sum(row)
                    self.assertIs(is_beside_paper(part, ("beside", other)), right)

    def test_great_groups(self):
        for prime, row in (
            (2, (1,) * 8), (2, (4, 2, 1, 1)), (2, (2, 2, 2, 2)), (3, (2, 2, 1)), (3, (1,) * 5), (2, (5, 3)),
            (2, (8,)),
        ):
            group, some = Group(prime, Kind(row)), elements_of(prime, row)
            for step, many in ((7, 2), (31, 3), (64, 1), (81, 2), (1, 1), (2, 1)):
                part = Part(group, tuple(some[step::step][:many]))
                word, kept = paper = beside_paper(part)
                self.assertIs(is_beside_paper(part, paper), True)
                if word == "beside":
                    self.assertEqual(made_by(prime, row, list(part) + list(kept)), frozenset(some))
                    self.assertEqual(set(part) & set(kept), {group.zero})
                else:
                    within = heights_in(prime, row, set(part))
                    self.assertGreater(row_of_heights(prime, row, kept)[0], within[kept])
            for part in (Part(group, ()), Part(group, group.base)):
                self.assertEqual(beside_paper(part)[0], "beside")

    def test_not_all_have_one(self):
        half = Part(Group(2, Kind((2,))), ((2,),))
        self.assertEqual(beside_paper(half), ("higher", (2,)))

    def test_values_of_every_sort(self):
        group = Group(2, Kind((2, 1)))
        part, half = Part(group, ((1, 1),)), Part(group, ((2, 0),))
        beside = Part(group, ((0, 1),))
        for value in paper_values() + [
            ("beside", Part(Group(2, Kind((1, 1))), ((0, 1),))), ("beside", Part(Group(3, Kind((2, 1))), ((0, 1),))),
            ("beside", beside.table), ("beside", beside, 0), ["beside", beside], ("Beside", beside), ("beside",),
            ("beside", part), ("higher", beside), ("beside", (0, 1)), (beside, "beside"), beside, ("beside", [beside]),
        ]:
            self.assertIs(is_beside_paper(part, value), False, value)
        self.assertIs(is_beside_paper(part, ("beside", beside)), True)
        for value in paper_values() + [
            ("higher", (True, 0)), ("higher", [2, 0]), ("higher", (2, 0), 0), ("higher", (6, 0)),
        ]:
            self.assertIs(is_beside_paper(half, value), False, value)
        self.assertIs(is_beside_paper(half, ("higher", (2, 0))), True)
        self.assertTrue(is_like(beside_paper(Part(Group(3, Kind()), ()))[0], "beside"))

    def test_wrong_arguments(self):
        for value in odd_ones(Part):
            self.assertEqual(error_of(beside_paper, value), ("InvalidPart",))
            self.assertEqual(error_of(is_beside_paper, value, None), ("InvalidPart",))


class Shown(unittest.TestCase):
    def test_sums_of_elements(self):
        # The sum of two elements of a part is in it: what the papers of both say adds up.
        group = Group(2, Kind((2, 1)))
        part = Part(group, ((1, 1),))
        for one, other in itertools.product(part, repeat=2):
            many = tuple(x + y for x, y in zip(member_paper(part, one)[1], member_paper(part, other)[1]))
            self.assertIs(is_member_paper(part, plus(2, (2, 1), one, other), ("sum", many)), True)


if __name__ == "__main__":
    unittest.main()
