"""Kept parts: [0.19], [10.1] to [10.9]."""

import itertools
import unittest

from primekinds.base.wholes import PRIMES
from primekinds.group.groups import Group, height_rows, leading
from primekinds.group.parts import Part, beside_paper, parts
from primekinds.kind.kinds import Kind
from primekinds.maps.kept import (
    greatest_kept, has_odd_parts, is_kept, is_kept_paper, kept_paper, kept_part, kept_rows, least_kept, undoable_kept,
)
from tests.helper import (
    all_images, all_parts, elements_of, error_of, groups_up_to, is_like, led_to, odd_ones, odd_values, paper_values,
    row_of_heights, rows_up_to,
)

NINES = 10 ** 60 - 1
# Groups with so few own maps that all of them can be listed.
LISTED = [
    (prime, row) for prime, row in groups_up_to(32)
    if prime ** sum(min(n, m) for n in row for m in row) <= 600
] + [(2, (4, 1)), (2, (4, 2)), (2, (5, 1)), (2, (3, 2)), (3, (2, 1)), (3, (3, 1)), (2, (3, 1, 1))]


def rows_told(row):
    """All kept rows, by the words of [10.2]."""
    return sorted(
        some for some in itertools.product(*[range(number + 1) for number in row])
        if all(0 <= some[i] - some[i + 1] <= row[i] - row[i + 1] for i in range(len(row) - 1))
    )


def own_maps(prime, row):
    """The dicts of all own maps."""
    some = elements_of(prime, row)
    return [{one: led_to(prime, row, images, one) for one in some} for images in all_images(prime, row, row)]


def kept_by(leads, part):
    return all(lead[one] in part for lead in leads for one in part)


def has_row(prime, row, kept):
    """The set of the elements whose entries are multiples of the powers of a row."""
    return {one for one in elements_of(prime, row) if all(x % prime ** s == 0 for x, s in zip(one, kept))}


class Rows(unittest.TestCase):
    def test_rows(self):
        for row in rows_up_to(8) + [(5, 3, 3, 1), (12,), (1,) * 12, (6, 6), (6, 4, 2), (5, 4, 2, 1)]:
            if len(row) < 9:
                self.assertTrue(is_like(kept_rows(Kind(row)), tuple(rows_told(row))), row)
            many = 1
            for number, behind in zip(row, row[1:] + (0,)):
                many *= number - behind + 1
            self.assertEqual(len(kept_rows(Kind(row))), many)
            self.assertEqual(len(height_rows(Kind(row))), many)
        self.assertEqual(kept_rows(Kind((1,) * 12)), ((0,) * 12, (1,) * 12))
        self.assertEqual(kept_rows(Kind()), ((),))
        for value in odd_ones(Kind) + [(2, 1), 3]:
            self.assertEqual(error_of(kept_rows, value), ("InvalidKind",))

    def test_parts_of_rows(self):
        for prime, row in groups_up_to(64):
            group = Group(prime, Kind(row))
            made = {kept: kept_part(group, kept) for kept in kept_rows(Kind(row))}
            for kept, part in made.items():
                self.assertEqual(set(part), has_row(prime, row, kept))
                self.assertEqual(part.kind.numbers, tuple(n - s for n, s in zip(row, kept) if n > s))
                self.assertEqual(part.rest.numbers, tuple(s for s in kept if s))
                self.assertIs(is_kept(part), True)
                self.assertEqual(kept_paper(part), ("kept", kept))
                side = tuple(n - s for n, s in zip(row, kept))
                self.assertEqual(part.other_side, made[side])
            for one, other in itertools.product(made, repeat=2):
                higher, lower = tuple(map(max, one, other)), tuple(map(min, one, other))
                self.assertEqual(made[one] & made[other], made[higher])
                self.assertEqual(made[one] | made[other], made[lower])
                self.assertIs(made[one].holds(made[other]), other == higher)
                if one != other:
                    self.assertNotEqual(made[one].kind, made[other].kind)
                    self.assertNotEqual(made[one].rest, made[other].rest)

    def test_elements_of_a_row(self):
        for prime, row in groups_up_to(32):
            group = Group(prime, Kind(row))
            held = {}
            for kept in kept_rows(Kind(row)):
                part = kept_part(group, kept)
                top = tuple(prime ** s % prime ** n for s, n in zip(kept, row))
                self.assertEqual(set(part), {one for one in group.members() if leading(group, top, one)[0] == "images"})
                for one in part:
                    held.setdefault(one, set()).add(kept)
            for one, other in itertools.product(list(held)[:12], held):
                same = row_of_heights(prime, row, one) == row_of_heights(prime, row, other)
                self.assertIs(held[one] == held[other], same)

    def test_wrong_rows(self):
        group = Group(2, Kind((3, 1)))
        right = kept_rows(Kind((3, 1)))
        for row in itertools.product(range(-1, 5), repeat=2):
            told = error_of(kept_part, group, row)
            self.assertEqual(told[0], "no error" if row in right else "InvalidOperation", row)
        for value in odd_ones(tuple) + [
            (), (0,), (0, 0, 0), [0, 0], (False, 0), (1, True), (0, None), ("0", 0), ((0, 0),), (10 ** 70, 0), 0,
            (NINES, 0),
        ]:
            self.assertEqual(error_of(kept_part, group, value), ("InvalidOperation",), value)
        for value in odd_ones(Group) + [Kind((3, 1)), 2]:
            self.assertEqual(error_of(kept_part, value, 5), ("InvalidGroup",))
        self.assertEqual(list(kept_part(Group(2, Kind()), ())), [()])


class Kept(unittest.TestCase):
    def test_by_all_own_maps(self):
        for prime, row in LISTED:
            leads = own_maps(prime, row)
            group = Group(prime, Kind(row))
            undoable = [lead for lead in leads if len(set(lead.values())) == group.size]
            told, rest = [], []
            for part in parts(group):
                kept = kept_by(leads, set(part))
                told += [part] if kept else []
                rest += [part] if kept_by(undoable, set(part)) else []
                self.assertIs(is_kept(part), kept, (prime, row, part.table))
                paper = kept_paper(part)
                self.assertIs(is_kept_paper(part, paper), True)
                self.assertEqual(paper[0], "kept" if kept else "out")
            self.assertEqual(len(told), len(kept_rows(Kind(row))))
            self.assertEqual(list(undoable_kept(group)), rest, (prime, row))
            self.assertIs(has_odd_parts(prime, Kind(row)), len(rest) > len(told))
            for part in parts(group):
                above = [other for other in told if other.holds(part)]
                below = [other for other in told if part.holds(other)]
                self.assertEqual(least_kept(part), min(above, key=len))
                self.assertEqual(greatest_kept(part), max(below, key=len))
                self.assertTrue(all(other.holds(least_kept(part)) for other in above))
                self.assertTrue(all(greatest_kept(part).holds(other) for other in below))

    def test_great_groups(self):
        for prime, row in (
            (2, (1,) * 8), (2, (4, 2, 1, 1)), (2, (8,)), (3, (3, 2)), (7, (1, 1)), (2, (5, 2, 1)), (5, (2, 1)),
        ):
            group, some = Group(prime, Kind(row)), elements_of(prime, row)
            for step in (3, 17, 40, 64, 128):
                part = Part(group, tuple(some[step % len(some)::step + 1][:2]))
                paper = kept_paper(part)
                self.assertIs(is_kept_paper(part, paper), True)
                self.assertEqual(paper[0], "kept" if is_kept(part) else "out")
                least, greatest = least_kept(part), greatest_kept(part)
                self.assertTrue(is_kept(least) and is_kept(greatest) and least.holds(part) and part.holds(greatest))
                powers = [
                    min([v for v in range(n) if any(x[i] % prime ** (v + 1) for x in part)], default=n)
                    for i, n in enumerate(row)
                ]
                told = tuple(min([n] + [v + max(0, n - m) for v, m in zip(powers, row)]) for n in row)
                self.assertEqual(least, kept_part(group, told))
                self.assertEqual(greatest, least_kept(part.other_side).other_side)

    def test_wrong_parts(self):
        for value in odd_ones(Part) + [((1, 0), (0, 1)), 3]:
            for call in (is_kept, kept_paper, least_kept, greatest_kept):
                self.assertEqual(error_of(call, value), ("InvalidPart",))
            self.assertEqual(error_of(is_kept_paper, value, None), ("InvalidPart",))


class Papers(unittest.TestCase):
    def test_which_are_taken(self):
        for prime, row in ((2, (2, 1)), (2, (1, 1)), (3, (1, 1)), (2, (3, 1)), (2, (3,))):
            group = Group(prime, Kind(row))
            right = all_images(prime, row, row)
            for part in list(parts(group)):
                told = set(part)
                for kept in itertools.product(*[range(number + 2) for number in row]):
                    same = kept in rows_told(row) and has_row(prime, row, kept) == told
                    self.assertIs(is_kept_paper(part, ("kept", kept)), same)
                for images in right[::3]:
                    for one in elements_of(prime, row):
                        out = one in told and led_to(prime, row, images, one) not in told
                        self.assertIs(is_kept_paper(part, ("out", images, one)), out)

    def test_images_that_are_none(self):
        group = Group(2, Kind((2, 1)))
        part = Part(group, ((0, 1),))
        for images in itertools.product(elements_of(2, (2, 1)), repeat=2):
            told = images in all_images(2, (2, 1), (2, 1)) and led_to(2, (2, 1), images, (0, 1)) not in part
            self.assertIs(is_kept_paper(part, ("out", images, (0, 1))), told)

    def test_values_of_every_sort(self):
        group = Group(2, Kind((3, 1)))
        odd, flat = Part(group, ((2, 1),)), kept_part(group, (2, 0))
        images = ((1, 0), (0, 0))
        for value in paper_values() + [
            ("out", images), ("out", images, (2, 1), 0), ["out", images, (2, 1)], ("out", list(images), (2, 1)),
            ("out", images, [2, 1]), ("out", ((True, 0), (0, 0)), (2, 1)), ("out", images, (2, True)),
            ("out", images, (0, 0)),
            ("Out", images, (2, 1)), ("out", ((1, 0), (1, 0)), (2, 1)), ("out", images, (10, 1)),
            ("out", images, (1, 0)),
            ("kept", images, (2, 1)), ("out", ((1, 0),), (2, 1)), ("out", images, 10 ** 70),
        ]:
            self.assertIs(is_kept_paper(odd, value), False, value)
            self.assertIs(is_kept_paper(flat, value), False, value)
        self.assertIs(is_kept_paper(odd, ("out", images, (2, 1))), True)
        for value in (
            ("kept", (2, False)), ("kept", [2, 0]), ("kept", (2, 0), 0), ["kept", (2, 0)], ("kept",), ("kept", (2,)),
            ("kept", (2, 1)), ("Kept", (2, 0)), ("kept", (10 ** 70, 0)), ("kept", "20"), ("out", (2, 0)),
        ):
            self.assertIs(is_kept_paper(flat, value), False, value)
        self.assertIs(is_kept_paper(flat, ("kept", (2, 0))), True)


class Undoable(unittest.TestCase):
    def test_sums_of_elements_with_one_row(self):
        # What undoable own maps keep has with an element all others of its height row.
        for prime, row in groups_up_to(32) + [
            (2, (4, 2)), (2, (3, 2, 1)), (2, (5, 1)), (2, (3, 1, 1, 1)), (3, (3, 1)), (2, (4, 1, 1)),
        ]:
            if row == (1,) * 5:
                continue
            rows = {one: row_of_heights(prime, row, one) for one in elements_of(prime, row)}
            classes = {}
            for one, heights in rows.items():
                classes.setdefault(heights, set()).add(one)
            told = [part for part in all_parts(prime, row) if all(classes[rows[one]] <= part for one in part)]
            got = undoable_kept(Group(prime, Kind(row)))
            self.assertIsInstance(got, tuple)
            self.assertEqual([sorted(part) for part in got], [list(part) for part in got])
            self.assertEqual({frozenset(part) for part in got}, set(told), (prime, row))
            self.assertEqual([part.table for part in got], sorted({part.table for part in got}))
            odd = [part for part in got if not is_kept(part)]
            self.assertIs(has_odd_parts(prime, Kind(row)), bool(odd))
            for one in odd:
                self.assertIn(one.other_side, got)
                for other in got:
                    self.assertTrue((one & other) in got and (one | other) in got)

    def test_great_groups(self):
        for prime, row, many in (
            (2, (1,) * 8, 2), (2, (8,), 9), (2, (2,) * 4, 3), (3, (1,) * 5, 2), (2, (5, 2, 1), 23),
        ):
            got = undoable_kept(Group(prime, Kind(row)))
            self.assertEqual(len(got), many)
            self.assertEqual([part.table for part in got], sorted({part.table for part in got}))
        for prime, row in groups_up_to(256):
            got = undoable_kept(Group(prime, Kind(row)))
            odd = has_odd_parts(prime, Kind(row))
            self.assertIs(odd, len(got) > len(kept_rows(Kind(row))))
            self.assertIs(odd, not all(is_kept(part) for part in got))

    def test_one_element(self):
        group = Group(2, Kind())
        part = Part(group, ())
        self.assertEqual((undoable_kept(group), least_kept(part), greatest_kept(part)), ((part,), part, part))
        self.assertEqual((kept_paper(part), is_kept(part), has_odd_parts(2, Kind())), (("kept", ()), True, False))

    def test_odd_kinds(self):
        for row in rows_up_to(12):
            once = [number for number in row if row.count(number) == 1]
            told = any(one - other >= 2 for one in once for other in once)
            self.assertIs(has_odd_parts(2, Kind(row)), told, row)
            for prime in PRIMES[1:]:
                self.assertIs(has_odd_parts(prime, Kind(row)), False)

    def test_wrong_arguments(self):
        for value in odd_ones(Group) + [Kind((3, 1)), 2]:
            self.assertEqual(error_of(undoable_kept, value), ("InvalidGroup",))
        for value in odd_values() + (0, 1, 4, 91, 101, -2, NINES):
            self.assertTrue(is_like(error_of(has_odd_parts, value, 5), ("InvalidNumber", value)))
        for value in odd_ones(Kind) + [(3, 1), 3]:
            self.assertEqual(error_of(has_odd_parts, 97, value), ("InvalidKind",))


class NotTrue(unittest.TestCase):
    def test_false_statements(self):
        group = Group(2, Kind((2, 1)))
        kinds = {kept_part(group, row).kind.numbers for row in kept_rows(Kind((2, 1)))}
        loose = [part for part in parts(group) if not is_kept(part) and part.kind.numbers in kinds]
        self.assertTrue(loose)
        big = Group(2, Kind((3, 1)))
        sizes = [len(kept_part(big, row)) for row in kept_rows(Kind((3, 1)))]
        self.assertLess(len(set(sizes)), len(sizes))
        self.assertEqual(beside_paper(kept_part(Group(2, Kind((2,))), (1,)))[0], "higher")
        odd = [part for part in undoable_kept(big) if not is_kept(part)][0]
        rows = {one: big.height_row_of(one) for one in big.members()}
        pairs = [(one, other) for one, other in itertools.product(rows, repeat=2) if rows[one] == rows[other]]
        self.assertTrue(all((one in odd) == (other in odd) for one, other in pairs))


if __name__ == "__main__":
    unittest.main()
