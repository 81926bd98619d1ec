"""Maps: [0.12], [0.14], [8.1] to [8.7]."""

import collections
import itertools
import unittest

from primekinds.group.groups import Group
from primekinds.group.parts import Part, parts
from primekinds.kind.kinds import Kind
from primekinds.maps.maps import (
    MAX_MAPS, GroupMap, image_counts, into_paper, is_images, is_into_paper, kind_of_maps, map_count, maps,
    one_to_one_count, onto_count, undoable_count,
)
from tests.helper import (
    all_images, elements_of, error_of, groups_up_to, is_like, kind_of, led_to, odd_ones, odd_values, paper_values, plus,
    rest_of, rows_up_to, times,
)

NINES = 10 ** 60 - 1


def pairs_up_to(most, primes=(2, 3, 5, 7)):
    """All pairs of small groups with at most so many maps."""
    return [
        (prime, row, others) for prime in primes for row, others in itertools.product(rows_up_to(4), repeat=2)
        if prime ** max(sum(row), sum(others)) <= 16
        and prime ** sum(min(n, m) for n in row for m in others) <= most
    ]


SMALL = pairs_up_to(32)


def ends_of(prime, row, others, images):
    """The dict from all elements to the elements to which a map leads them."""
    return {one: led_to(prime, others, images, one) for one in elements_of(prime, row)}


class Counts(unittest.TestCase):
    def test_by_listing(self):
        for prime, row, others in pairs_up_to(256):
            found = collections.Counter()
            for images in all_images(prime, row, others):
                ends = set(ends_of(prime, row, others, images).values())
                found["all"] += 1
                found["one"] += len(ends) == prime ** sum(row)
                found["onto"] += len(ends) == prime ** sum(others)
                found[kind_of(prime, others, ends)] += 1
            one, other = Kind(row), Kind(others)
            self.assertEqual(map_count(one, other)(prime), found["all"], (prime, row, others))
            self.assertEqual(one_to_one_count(one, other)(prime), found["one"])
            self.assertEqual(onto_count(one, other)(prime), found["onto"])
            told = {key: found[key] for key in sorted(key for key in found if not isinstance(key, str))}
            counts = {key: poly(prime) for key, poly in image_counts(one, other).items()}
            self.assertTrue(is_like(counts, told), (prime, row, others))
            if row == others:
                self.assertEqual(undoable_count(one)(prime), found["one"])

    def test_great_kinds(self):
        self.assertEqual(str(map_count(Kind((1,) * 12), Kind((1,) * 12))), "p^144")
        self.assertEqual(str(map_count(Kind((12,)), Kind((7, 5)))), "p^12")
        self.assertEqual(undoable_count(Kind((1,) * 12))(2), product(2 ** 12 - 2 ** i for i in range(12)))
        self.assertEqual(undoable_count(Kind((1,) * 5))(7), product(7 ** 5 - 7 ** i for i in range(5)))
        self.assertEqual(str(undoable_count(Kind((12,)))), "p^12 - p^11")
        self.assertEqual((str(undoable_count(Kind())), str(map_count(Kind(), Kind((12,))))), ("1", "1"))

    def test_images_add_up(self):
        for row, others in itertools.product(rows_up_to(5), repeat=2):
            one, other = Kind(row), Kind(others)
            total = sum(poly(11) for poly in image_counts(one, other).values())
            self.assertEqual(total, map_count(one, other)(11))
            self.assertEqual(map_count(one, other), map_count(other, one))
            self.assertIs(bool(one_to_one_count(one, other)), other.holds(one))
            self.assertIs(bool(onto_count(one, other)), one.holds(other))
            self.assertTrue(all(image_counts(one, other).values()))

    def test_kinds_of_maps(self):
        for row in rows_up_to(12):
            for many in range(max(row, default=0), 13):
                told = tuple(sum(min(k, number) for number in row) for k in range(1, many + 1))
                self.assertEqual(kind_of_maps(told), Kind(row))
        right = {}
        for row in rows_up_to(6):
            if max(row, default=0) <= 3:
                right[tuple(sum(min(k, number) for number in row) for k in (1, 2, 3))] = row
        for exponents in itertools.product(range(7), repeat=3):
            kind = kind_of_maps(exponents)
            self.assertEqual(None if kind is None else kind.numbers, right.get(exponents), exponents)
        self.assertEqual((kind_of_maps(()), kind_of_maps((0,) * 12)), (Kind(), Kind()))
        for value in odd_ones(tuple) + [
            0, [1], (13,), (-1,), (1, True), (None,), (0,) * 13, ("1",), ((1,),), (1.0,), (NINES,), (1, 10 ** 70),
        ]:
            self.assertEqual(error_of(kind_of_maps, value), ("InvalidOperation",), value)

    def test_lines(self):
        for row in rows_up_to(5):
            for k in range(1, 6):
                told = sum(min(k, number) for number in row)
                self.assertEqual(str(map_count(Kind((k,)), Kind(row))), str(map_count(Kind(row), Kind((k,)))))
                self.assertEqual(map_count(Kind((k,)), Kind(row))(3), 3 ** told)

    def test_wrong_kinds(self):
        for value in odd_ones(Kind) + [(2, 1), 3]:
            self.assertEqual(error_of(undoable_count, value), ("InvalidKind",))
            for call in (map_count, one_to_one_count, onto_count, image_counts):
                for given in ((value, 5), (value, Kind((2,))), (Kind((2,)), value)):
                    self.assertEqual(error_of(call, *given), ("InvalidKind",))

    def test_not_true(self):
        # Of all kinds of the size 2 it is not the line that has the most own maps.
        self.assertGreater(map_count(Kind((1, 1)), Kind((1, 1)))(2), map_count(Kind((2,)), Kind((2,)))(2))


def product(numbers):
    value = 1
    for number in numbers:
        value *= number
    return value


class Listing(unittest.TestCase):
    def test_all_maps(self):
        for prime, row, others in pairs_up_to(128):
            one, other = Group(prime, Kind(row)), Group(prime, Kind(others))
            told = all_images(prime, row, others)
            self.assertTrue(is_like([lead.images for lead in maps(one, other)], told))
        big = Group(2, Kind((1,) * 3))
        self.assertEqual(len(list(maps(big, Group(2, Kind((1,) * 4))))), 4096)

    def test_which_images_are_taken(self):
        for prime, row, others in (
            (2, (2, 1), (2,)), (2, (1,), (2, 1)), (2, (1, 1), (2,)), (3, (1,), (2,)), (2, (2,), (3, 1)),
        ):
            one, other = Group(prime, Kind(row)), Group(prime, Kind(others))
            right = set(all_images(prime, row, others))
            for images in itertools.product(elements_of(prime, others), repeat=len(row)):
                self.assertIs(is_images(one, other, images), images in right)
                if images not in right:
                    self.assertEqual(error_of(GroupMap, one, other, images), ("InvalidMap",))

    def test_too_many(self):
        for prime, row, others in (
            (2, (1,) * 4, (1,) * 4), (3, (1,) * 4, (1,) * 2), (7, (1, 1), (1, 1)), (2, (1,) * 8, (1,) * 8),
        ):
            one, other = Group(prime, Kind(row)), Group(prime, Kind(others))
            if prime ** (len(row) * len(others)) > 5000:
                self.assertEqual(error_of(next, maps(one, other)), ("TooMany", 5000))
            else:
                self.assertEqual(len(list(maps(one, other))), prime ** (len(row) * len(others)))
        self.assertEqual(MAX_MAPS, 5000)

    def test_one_element(self):
        none, one = Group(2, Kind()), Group(2, Kind((1,)))
        self.assertEqual([lead.images for lead in maps(none, none)], [()])
        self.assertEqual([lead.images for lead in maps(none, one)], [()])
        self.assertEqual([lead.images for lead in maps(one, none)], [((),)])
        lead = GroupMap(none, none, ())
        self.assertEqual((lead(()), ~lead, lead * lead, -lead, lead.is_undoable()), ((), lead, lead, lead, True))
        self.assertEqual((into_paper(none, one), into_paper(one, none)), (("into", ()), ("rank", 0)))


class Leading(unittest.TestCase):
    def test_each_map(self):
        for prime, row, others in SMALL:
            one, other = Group(prime, Kind(row)), Group(prime, Kind(others))
            for lead in maps(one, other):
                ends = ends_of(prime, row, others, lead.images)
                self.assertEqual({x: lead(x) for x in ends}, ends)
                self.assertEqual((lead.group, lead.other), (one, other))
                self.assertEqual(list(lead.image), sorted(set(ends.values())))
                kernel = [x for x in ends if not any(ends[x])]
                self.assertEqual(list(lead.kernel), kernel)
                self.assertEqual(lead.image.kind, lead.kernel.rest)
                self.assertEqual(len(lead.image) * len(lead.kernel), one.size)
                for y in elements_of(prime, others):
                    told = [x for x in ends if ends[x] == y]
                    self.assertEqual(lead.source(y), told[0] if told else None)
                told = (len(kernel) == 1, len(lead.image) == other.size)
                got = (lead.is_one_to_one(), lead.is_onto(), lead.is_undoable())
                self.assertTrue(is_like(got, told + (all(told),)))

    def test_forth_and_backward(self):
        for prime, row, others in pairs_up_to(16):
            one, other = Group(prime, Kind(row)), Group(prime, Kind(others))
            first, second = list(parts(one))[::2], list(parts(other))[::2]
            for lead in maps(one, other):
                ends = ends_of(prime, row, others, lead.images)
                for part in first:
                    forth = lead.forth(part)
                    self.assertEqual(list(forth), sorted({ends[x] for x in part}))
                    self.assertEqual(lead.backward(forth), part | lead.kernel)
                for part in second:
                    backward = lead.backward(part)
                    self.assertEqual(list(backward), [x for x in ends if ends[x] in set(part)])
                    self.assertEqual(lead.forth(backward), part & lead.image)

    def test_great_groups(self):
        for prime, row, others in (
            (2, (1,) * 8, (1,) * 8), (2, (4, 2, 1), (3, 3, 2)), (3, (3, 2), (2, 2, 1)), (2, (5, 3), (8,)),
            (5, (2, 1), (3,)),
        ):
            one, other = Group(prime, Kind(row)), Group(prime, Kind(others))
            some, zero = elements_of(prime, others), other.zero
            ends = [[y for y in some if times(prime, others, y, prime ** n) == zero] for n in row]
            for step in (1, 5, 11):
                lead = GroupMap(one, other, tuple(end[(step * (k + 3) ** 2) % len(end)] for k, end in enumerate(ends)))
                told = ends_of(prime, row, others, lead.images)
                self.assertEqual(list(lead.kernel), [x for x in told if not any(told[x])])
                self.assertEqual(list(lead.image), sorted(set(told.values())))
                for y in some[::37]:
                    self.assertEqual(lead.source(y), next((x for x in told if told[x] == y), None))
                half = Part(other, tuple(some[step::59][:3]))
                self.assertEqual(list(lead.backward(half)), [x for x in told if told[x] in set(half)])
                half = Part(one, tuple(elements_of(prime, row)[step::41][:3]))
                self.assertEqual(list(lead.forth(half)), sorted({told[x] for x in half}))

    def test_wrong_arguments(self):
        one, other = Group(2, Kind((2, 1))), Group(2, Kind((2,)))
        lead = GroupMap(one, other, ((1,), (2,)))
        for value in odd_values() + ((4, 0), (0,), [0, 0], (1, True)):
            self.assertEqual(error_of(lead, value), ("InvalidElement",))
        for value in odd_values() + ((4,), (True,), [0], (0, 0)):
            if value != (1,):
                self.assertEqual(error_of(lead.source, value), ("InvalidElement",), value)
        for value in odd_values() + (Part(other, ()), Part(Group(3, Kind((2, 1))), ()), [(0, 0)]):
            self.assertEqual(error_of(lead.forth, value), ("InvalidPart",))
        for value in odd_values() + (Part(one, ()), Part(Group(3, Kind((2,))), ()), [(0,)]):
            self.assertEqual(error_of(lead.backward, value), ("InvalidPart",))


class Signs(unittest.TestCase):
    def test_one_behind_the_other(self):
        for prime, rows in ((2, ((1,), (2,), (1, 1), (2, 1))), (3, ((1,), (2,), (1, 1)))):
            made = [Group(prime, Kind(row)) for row in rows]
            for one, other, third in itertools.product(made, repeat=3):
                firsts, seconds = list(maps(one, other))[::3], list(maps(other, third))[::2]
                for f, g in itertools.product(firsts[:6], seconds[:6]):
                    both = g * f
                    self.assertEqual((both.group, both.other), (one, third))
                    self.assertTrue(all(both(x) == g(f(x)) for x in one.members()))
                    self.assertEqual(both.kernel, f.backward(g.kernel))
                    self.assertEqual(both.image, g.forth(f.image))

    def test_sums(self):
        for prime, row, others in SMALL:
            one, other = Group(prime, Kind(row)), Group(prime, Kind(others))
            some = list(maps(one, other))[::3]
            for f, g in itertools.product(some, repeat=2):
                self.assertTrue(all((f + g)(x) == plus(prime, others, f(x), g(x)) for x in one.members()))
            for f in some:
                self.assertTrue(all(not any((f + -f)(x)) for x in one.members()))
                self.assertEqual(-(-f), f)

    def test_back(self):
        for prime, row in groups_up_to(16):
            group = Group(prime, Kind(row))
            if map_count(Kind(row), Kind(row))(prime) <= 1000:
                for lead in maps(group, group):
                    told = error_of(lambda: ~lead)
                    if lead.is_undoable():
                        back = told[1]
                        self.assertTrue(all(back(lead(x)) == x for x in group.members()))
                        self.assertEqual((lead * back, back * lead), (GroupMap.itself(group),) * 2)
                    else:
                        kernel = [x for x in group.members() if any(x) and not any(lead(x))]
                        self.assertEqual(told, ("Refused", ("kernel", kernel[0])))

    def test_back_from_a_greater_group(self):
        for prime, row, others in SMALL:
            one, other = Group(prime, Kind(row)), Group(prime, Kind(others))
            for lead in list(maps(one, other))[::5]:
                told = error_of(lambda: ~lead)
                kernel = [x for x in one.members() if any(x) and not any(lead(x))]
                outside = [y for y in other.members() if y not in {lead(x) for x in one.members()}]
                if kernel:
                    self.assertEqual(told, ("Refused", ("kernel", kernel[0])))
                elif outside:
                    self.assertEqual(told, ("Refused", ("outside", outside[0])))
                else:
                    self.assertEqual(told, ("no error", ~lead))

    def test_equal(self):
        some = ((2, (), ()), (3, (), ()), (2, (1,), (1,)), (2, (1,), (2,)), (3, (1,), (1,)), (2, (1,), ()))
        made = [
            lead for prime, row, others in some
            for lead in maps(Group(prime, Kind(row)), Group(prime, Kind(others)))
        ]
        for i, j in itertools.product(range(len(made)), repeat=2):
            self.assertIs(made[i] == made[j], i == j)
            self.assertIs(made[i] != made[j], i != j)
        lead = GroupMap(Group(2, Kind((2, 1))), Group(2, Kind((2,))), ((1,), (2,)))
        for value in odd_ones(GroupMap) + [((1,), (2,)), str(lead)]:
            self.assertIs(lead == value, False)
            for call in (lambda: lead * value, lambda: lead + value, lambda: lead < value):
                self.assertEqual(error_of(call), ("TypeError",))
        self.assertEqual(str(lead), "map of [2 1] to [2] at 2")
        self.assertEqual(str(GroupMap.itself(Group(7, Kind()))), "map of [] to [] at 7")
        for call in (lambda: iter(lead), lambda: lead - lead, lambda: len(lead)):
            self.assertEqual(error_of(call), ("TypeError",))

    def test_groups_that_do_not_fit(self):
        one, other, third = Group(2, Kind((2, 1))), Group(2, Kind((2,))), Group(3, Kind((2,)))
        f, g = GroupMap(one, other, ((1,), (2,))), GroupMap(other, one, ((1, 1),))
        h = GroupMap.itself(third)
        for x in (GroupMap.itself(one), GroupMap.itself(other)):
            self.assertEqual(error_of(lambda: f + x), ("InvalidMap",))
            self.assertEqual(error_of(lambda: x + g), ("InvalidMap",))
        for call in (
            lambda: f * f, lambda: g * g, lambda: f * h, lambda: h * f, lambda: f + g, lambda: f + h, lambda: g + f,
        ):
            self.assertEqual(error_of(call), ("InvalidMap",))
        self.assertEqual((f * g)((1,)), (3,))

    def test_wrong_arguments(self):
        one, other = Group(2, Kind((2, 1))), Group(2, Kind((2,)))
        for value in odd_ones(Group) + [2, Kind((2,))]:
            self.assertEqual(error_of(GroupMap, value, 5, 5), ("InvalidGroup",))
            self.assertEqual(error_of(GroupMap, one, value, 5), ("InvalidGroup",))
            self.assertEqual(error_of(GroupMap.itself, value), ("InvalidGroup",))
            for call in (maps, into_paper, is_images, is_into_paper):
                rest = (5,) if call in (is_images, is_into_paper) else ()
                for given in ((value, 5) + rest, (value, one) + rest, (one, value) + rest):
                    told = error_of(next, call(*given)) if call is maps else error_of(call, *given)
                    self.assertEqual(told, ("InvalidGroup",))
        third = Group(3, Kind((2,)))
        self.assertEqual(error_of(GroupMap, one, third, ()), ("InvalidGroup",))
        self.assertEqual(error_of(next, maps(one, third)), ("InvalidGroup",))
        self.assertEqual(error_of(into_paper, one, third), ("InvalidGroup",))
        self.assertEqual(error_of(is_into_paper, one, third, None), ("InvalidGroup",))
        self.assertEqual(error_of(is_images, one, third, None), ("InvalidGroup",))
        for value in paper_values() + [
            ((1,), (1,)), ((1,),), ((1,), (2,), (0,)), [(1,), (2,)], ((1,), [2]), ((True,), (2,)), ((1,), (6,)),
            ((-1,), (2,)),
        ]:
            self.assertEqual(error_of(GroupMap, one, other, value), ("InvalidMap",), value)
            self.assertIs(is_images(one, other, value), False, value)
        self.assertIs(is_images(one, other, ((1,), (2,))), True)

    def test_nothing_changes(self):
        lead = GroupMap(Group(2, Kind((2, 1))), Group(2, Kind((2,))), ((1,), (2,)))
        for name in ("group", "other", "images", "image", "kernel"):
            self.assertEqual(getattr(lead, name), getattr(lead, name))
            with self.assertRaises(AttributeError):
                setattr(lead, name, 5)


class Into(unittest.TestCase):
    def test_papers(self):
        for prime, row, others in [(2, r, o) for r, o in itertools.product(rows_up_to(5), repeat=2)] + SMALL:
            one, other = Group(prime, Kind(row)), Group(prime, Kind(others))
            word, kept = paper = into_paper(one, other)
            self.assertIs(is_into_paper(one, other, paper), True)
            self.assertEqual(word, "into" if Kind(others).holds(Kind(row)) else "rank")
            if word == "into":
                self.assertEqual(len(set(ends_of(prime, row, others, kept).values())), one.size)

    def test_which_are_taken(self):
        for prime, row, others in SMALL:
            one, other = Group(prime, Kind(row)), Group(prime, Kind(others))
            for images in all_images(prime, row, others):
                right = len(set(ends_of(prime, row, others, images).values())) == one.size
                self.assertIs(is_into_paper(one, other, ("into", images)), right)
            for k in range(-1, 7):
                ranks = [sum(number > k for number in numbers) for numbers in (row, others)]
                self.assertIs(is_into_paper(one, other, ("rank", k)), k >= 0 and ranks[0] > ranks[1])

    def test_values_of_every_sort(self):
        line, big = Group(2, Kind((2,))), Group(2, Kind((2, 1)))
        for value in paper_values() + [
            ("into", ((1, 1),), 0), ("into", ((True, 1),)), ("into", [(1, 1)]), ["into", ((1, 1),)],
            ("into", ((2, 1),)),
            ("Into", ((1, 1),)), ("into", (1, 1)), ("into", ((1, 1), (0, 0))), ("into", ((5, 1),)),
        ]:
            self.assertIs(is_into_paper(line, big, value), False, value)
            told = is_like(value, ("rank", 0))
            self.assertIs(is_into_paper(big, line, value), told, value)
        self.assertIs(is_into_paper(line, big, ("into", ((1, 1),))), True)

    def test_rest_and_image(self):
        for prime, row, others in pairs_up_to(8):
            one, other = Group(prime, Kind(row)), Group(prime, Kind(others))
            for lead in maps(one, other):
                self.assertEqual(lead.image.kind.numbers, rest_of(prime, row, set(lead.kernel)))


if __name__ == "__main__":
    unittest.main()
