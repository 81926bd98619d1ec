"""Values as strings: [14.1] to [14.3]."""

import itertools
import unittest

from primekinds.group.groups import Group
from primekinds.group.parts import Part, parts
from primekinds.kind.kinds import Kind
from primekinds.maps.joinings import Glue
from primekinds.maps.maps import GroupMap, maps
from primekinds.poly.polys import Poly
from primekinds.ring.rings import KindSum
from primekinds.table.places import Place, places
from primekinds.table.tables import Table
from primekinds.text.strings import read_value, write_value
from tests.helper import error_of, is_like, odd_ones, rows_up_to

NINES = 10 ** 60 - 1
WORDS = ("poly", "kind", "group", "part", "map", "table", "place")
G = Group(2, Kind((2, 1)))


def told(word, *items):
    """A string, put together from its items."""
    string = word
    for item in items:
        string = f"{string} {item}"
    return string


def flat(rows):
    return [entry for row in rows for entry in row]


def values():
    """Pairs of a value and the items of its string, for values of all seven classes."""
    for factors in ((), (0, 1), (-1,), (1, 0, -2), (NINES, -NINES), (0,) * 399 + (1,), (7,) * 400, (10, 100, -10)):
        yield Poly(factors), ("poly", *factors)
    for row in rows_up_to(6) + [(12,), (1,) * 12, (6, 4, 2)]:
        yield Kind(row), ("kind", *row)
    for prime, row in ((2, ()), (7, ()), (2, (8,)), (2, (1,) * 8), (3, (2, 1)), (5, (1, 1)), (7, (2,)), (2, (2, 1))):
        group = Group(prime, Kind(row))
        yield group, ("group", prime, *row)
        for makers in ((), group.base, (group.zero,), group.base[1:]):
            part = Part(group, makers)
            yield part, ("part", prime, *row, "/", *flat(part.table))
        for other in (Group(prime, Kind()), Group(prime, Kind((1,))), group):
            for images in (
                (other.zero,) * len(row),
                tuple(other.base[i % len(other)] for i in range(len(row))) if len(other) else None
            ):
                if images is not None and error_of(GroupMap, group, other, images)[0] == "no error":
                    yield GroupMap(group, other, images), (
                        "map", prime, *row, "/", *other.kind.numbers, "/", *flat(images)
                    )
    for part in parts(Group(2, Kind((2, 1, 1)))):
        yield part, ("part", 2, 2, 1, 1, "/", *flat(part.table))
    for lead in maps(G, Group(2, Kind((2,)))):
        yield lead, ("map", 2, 2, 1, "/", 2, "/", *flat(lead.images))
    for prime, many, rows in (
        (2, 1, ((1,),)), (97, 12, ((5 ** 30,),)), (2, 3, ((1, 2, 3, 4),)), (3, 2, ((1,), (8,), (0,))),
        (5, 3, ((7, -1), (0, 3))),
        (2, 3, ((1, 2, 3, 4), (5, 6, 7, 0), (0, 0, 0, 0), (1, 1, 1, 1))),
    ):
        table = Table(prime, many, rows)
        yield table, ("table", prime, many, len(rows[0]), *[entry % prime ** many for entry in flat(rows)])
    for place in list(places(3, 4)) + list(places(1, 7)) + list(places(4, 2)) + [Place(2, ((NINES, 0), (1, 1)))]:
        yield place, ("place", len(place), *flat(place.table))
    yield Place(1, ((1,),)), ("place", 1, 1)


class Writing(unittest.TestCase):
    def test_put_together_and_read_again(self):
        every = list(values())
        self.assertEqual({items[0] for _, items in every}, set(WORDS))
        for value, items in every:
            string = told(*items)
            self.assertEqual(write_value(value), string)
            again = read_value(string)
            self.assertEqual(again, value)
            self.assertIs(again.__class__, value.__class__)
            self.assertEqual(write_value(again), string)

    def test_unlike_values(self):
        every = list(values())
        for (one, _), (other, _) in itertools.product(every[::7], every):
            self.assertIs(one == other, write_value(one) == write_value(other))

    def test_long_values(self):
        great = Poly((NINES,)) * Poly((NINES, 1))
        self.assertEqual(write_value(great), told("poly", NINES * NINES, NINES))
        self.assertEqual(error_of(read_value, write_value(great)), ("ParseError", 1))
        many = Poly((1,)).raised(400)
        self.assertEqual(write_value(many), told("poly", *[0] * 400, 1))
        self.assertEqual(error_of(read_value, write_value(many)), ("ParseError", 402))
        place = Place(1, ((10 ** 40,),)) & Place(1, ((10 ** 40 + 1,),))
        self.assertEqual(write_value(place), told("place", 1, 10 ** 40 * (10 ** 40 + 1)))

    def test_other_values(self):
        for value in odd_ones(Poly, Kind, Group, Part, GroupMap, Table, Place) + [
            5, "poly", ("poly",), Glue(2, Kind(), Kind(), ()), KindSum.of(Kind()), Kind, [Poly()], (1, 2),
        ]:
            self.assertEqual(error_of(write_value, value), ("InvalidOperation",), value)


class Reading(unittest.TestCase):
    def test_no_strings(self):
        for value in odd_ones(str) + [5, b"poly", ["poly"], ("poly", "1")]:
            self.assertTrue(is_like(error_of(read_value, value), ("ParseError", None)), value)

    def test_first_words(self):
        for string in (
            "", " ", " poly", "Poly 1", "polys 1", "pol", "1 2", "/", "poly\n", "poly\t1", "kind,2", "glue 2",
            "x 1 2 3", "-1",
            "desk 2 1", "poly/ 1", "kinds", "a" * 3000, " " * 3000,
        ):
            self.assertEqual(error_of(read_value, string), ("ParseError", 0), string)

    def test_items_that_are_not_right(self):
        wrong = (
            "", "01", "00", "-0", "-01", "+1", "1.0", "-", "--1", "1-", "a", "1a", "0x1", "1_0", " ", "//", "\\", "1/",
            "/1", "\n",
            "1\n", "9" * 61, "-" + "9" * 61, "1" + "0" * 60, "1e3", "(1)", "[1]", "True", "None", "kind", "poly",
        )
        for word in WORDS:
            for item in wrong:
                if item != " ":
                    self.assertEqual(error_of(read_value, f"{word} {item}"), ("ParseError", 1), item)
                    self.assertEqual(error_of(read_value, f"{word} 2 {item} x"), ("ParseError", 2), item)
                    self.assertEqual(error_of(read_value, f"{word} 2 1 -5 {item}"), ("ParseError", 4), item)
            self.assertEqual(error_of(read_value, f"{word}  2"), ("ParseError", 1))
            self.assertEqual(error_of(read_value, f"{word} 2 "), ("ParseError", 2))
            self.assertEqual(error_of(read_value, f"{word} "), ("ParseError", 1))

    def test_marks(self):
        for word in ("poly", "kind", "group", "table", "place"):
            for string in (f"{word} /", f"{word} / 1", f"{word} / /"):
                self.assertEqual(error_of(read_value, string), ("ParseError", 1))
            self.assertEqual(error_of(read_value, f"{word} 2 1 / 2"), ("ParseError", 3))
        for string, index in (
            ("part 2 / /", 3), ("part / /", 2), ("part 2 1 / 1 /", 5), ("part 2 / / x", 3), ("part / 1 / 2", 3),
            ("map 2 / / /", 4), ("map / / /", 3), ("map 2 1 / 1 / 1 /", 7), ("map 2 / x / /", 3),
        ):
            self.assertEqual(error_of(read_value, string), ("ParseError", index), string)
        for string in (
            "part 2", "part", "part 2 1 1", "part /", "map 2", "map", "map 2 /", "map / /", "map 2 1 / 1 1", "map /",
            "map 2 1 /",
        ):
            self.assertEqual(error_of(read_value, string), ("ParseError", len(string.split(" "))), string)

    def test_right_items_of_no_value(self):
        for string in (
            "poly 0", "poly 1 0", "poly 0 0", "poly -3 0", told("poly", *[1] * 401), told("poly", *[0] * 401),
            "kind 0", "kind 1 2", "kind 3 4", "kind 13", "kind 12 1", "kind -1", "kind 2 0", told("kind", NINES),
            "group", "group 1", "group 4 1", "group 11 1", "group 97", "group 2 9", "group 2 1 2", "group 7 3",
            "group 2 0",
            "group -2 1", told("group", NINES, 1), told("group", 2, *[1] * 9), "group 0", "group 3 4 2",
            "part 2 1 / 3", "part 2 1 / 0", "part 2 1 / 4", "part 2 1 /", "part 2 1 / 1 1", "part 2 / 1",
            "part 2 2 1 / 4 1 0 2",
            "part 2 2 1 / 1 2 0 2", "part 2 2 1 / 1 0 0", "part 2 2 1 / 1 0 0 1 0", "part 4 / ".strip(), "part 2 9 / 1",
            "part 2 1 / -1", "part 2 2 1 / 1 0 1 1", told("part", 2, 1, "/", NINES),
            "map 2 1 / 1 / 2", "map 2 1 / 1 / -1", "map 2 1 / 1 /", "map 2 1 / 1 / 1 0", "map 2 1 / 2 / 1",
            "map 2 / / 1",
            "map 11 / /", "map 2 1 / / 0", "map 2 9 / 1 / 0", "map 2 1 / 9 / 0", "map 2 1 2 / / ".strip(),
            "map 2 / 1 / 1",
            "map 2 2 1 / 2 / 1 1", "map 2 1 1 / 1 / 0",
            "table", "table 2", "table 2 1", "table 2 1 1", "table 2 1 0", "table 2 1 0 1", "table 2 1 2 1",
            "table 2 1 1 2",
            "table 2 1 1 -1", "table 4 1 1 1", "table 2 0 1 0", "table 2 13 1 1", "table 2 1 5 0 0 0 0 0",
            "table 2 1 1 0 0 0 0 0",
            "table 2 7 2 1 1", "table 2 2 2 1 2 3", "table 2 2 3 1 2 4", "table 101 1 1 0", "table 2 1 -1 0",
            "table -2 1 1 0",
            told("table", 2, 1, NINES, 1), told("table", 2, NINES, 1, 1), "table 2 4 4 1 1 1 1", "table 2 7 1 0 0",
            "place", "place 0", "place 1", "place 1 0", "place 1 -1", "place 2 1 0 0", "place 2 1 0 0 0",
            "place 2 1 1 0 1",
            "place 2 1 -1 0 3", "place 2 1 3 0 3", "place 2 1 0 1 1", "place 5 1", "place 1 1 1",
            told("place", 5, *flat_unit(5)),
            "place -1 1", told("place", NINES, 1), "place 2 0 1 1 0", "place 2 2 0 0 1 0", "place 3 1 0 0 0 1 0 0 0 0",
        ):
            self.assertEqual(error_of(read_value, string), ("ParseError", len(string.split(" "))), string)

    def test_edges(self):
        self.assertEqual(read_value("poly"), Poly())
        self.assertEqual(read_value(told("poly", *[0] * 399, -NINES)).degree, 399)
        self.assertEqual(read_value("kind"), Kind())
        self.assertEqual(read_value("group 7"), Group(7, Kind()))
        self.assertEqual(read_value("part 7 /"), Part(Group(7, Kind()), ()))
        self.assertEqual(read_value("map 5 / /"), GroupMap(Group(5, Kind()), Group(5, Kind()), ()))
        self.assertEqual(read_value("map 5 / 1 /"), GroupMap(Group(5, Kind()), Group(5, Kind((1,))), ()))
        self.assertEqual(read_value("map 5 1 / /"), GroupMap(Group(5, Kind((1,))), Group(5, Kind()), ((),)))
        self.assertEqual(read_value("place 1 1"), Place(1, ((1,),)))
        self.assertEqual(read_value(told("place", 1, NINES)).class_count, NINES)
        self.assertEqual(read_value("table 97 12 1 0").rows, ((0,),))

    def test_each_change_of_a_string(self):
        for string in (
            "part 2 2 1 / 1 1 0 2", "map 2 2 1 / 2 / 1 2", "table 2 2 3 1 2 3 0 0 1", "place 2 1 3 0 6", "kind 3 1 1",
            "poly 1 0 -2"
        ):
            right = read_value(string)
            for at in range(len(string) + 1):
                for sign in "012/- ":
                    near = string[:at] + sign + string[at:]
                    got = error_of(read_value, near)
                    if got[0] == "no error":
                        self.assertEqual(write_value(got[1]), near)
                        self.assertNotEqual(got[1], right)
                    else:
                        self.assertEqual(got[0], "ParseError", near)
                        self.assertTrue(0 <= got[1] <= len(near.split(" ")), near)

    def test_both_ways_for_many_strings(self):
        many = 0
        for word in WORDS:
            for items in itertools.product(("0", "1", "2", "3", "/"), repeat=4):
                string = " ".join((word, *items))
                got = error_of(read_value, string)
                if got[0] == "no error":
                    many += 1
                    self.assertEqual(write_value(got[1]), string)
        self.assertGreater(many, 30)


def flat_unit(many):
    return [int(i == j) for i in range(many) for j in range(many)]


if __name__ == "__main__":
    unittest.main()
