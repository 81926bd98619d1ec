"""What the interface lists stands under its name, in its own file and class."""

import inspect
import unittest

import primekinds.base.wholes as wholes
import primekinds.chain.fillings as fillings
import primekinds.chain.inverse as inverse
import primekinds.chain.rows as rows
import primekinds.count.counts as counts
import primekinds.desk.desk as desks
import primekinds.errors as errors
import primekinds.group.groups as groups
import primekinds.group.parts as parts
import primekinds.kind.kinds as kinds
import primekinds.maps.joinings as joinings
import primekinds.maps.kept as kept
import primekinds.maps.maps as maps
import primekinds.poly.polys as polys
import primekinds.ring.halls as halls
import primekinds.ring.rings as rings
import primekinds.table.places as places
import primekinds.table.shares as shares
import primekinds.table.tables as tables
import primekinds.text.strings as strings

FUNCTIONS = (
    (wholes, {"is_integer": "(value)", "is_prime": "(value)"}),
    (polys, {"binomial": "(whole, many)", "heights": "(many)", "flags": "(many)"}),
    (kinds, {
        "kinds_of": "(size)", "kinds_within": "(kind)", "flats_over": "(kind, many)", "lines_over": "(kind, many)",
    }),
    (groups, {
        "height_rows": "(kind)", "count_at_least": "(kind, row)", "count_with": "(kind, row)",
        "order_count": "(kind, many)", "leading": "(group, one, other)", "is_leading": "(group, one, other, value)",
    }),
    (parts, {
        "is_table": "(group, value)", "paired": "(group, one, other)", "parts": "(group)",
        "member_paper": "(part, element)", "is_member_paper": "(part, element, value)", "beside_paper": "(part)",
        "is_beside_paper": "(part, value)",
    }),
    (counts, {
        "part_count": "(kind, inner)", "size_count": "(kind, many)", "by_size": "(kind)", "all_count": "(kind)",
        "kind_counts": "(kind)", "kind_of_counts": "(polys)", "tuples_within": "(kind, inner)",
    }),
    (halls, {
        "hall": "(kind, rest, inner)", "flat_hall": "(kind, rest)", "can_part": "(kind, rest, inner)",
        "pairs_in": "(kind)", "lead_count": "(kind, rest, inner)", "pairs_at_one": "(kind, rest, inner)",
    }),
    (rings, {
        "in_flats": "(value)", "of_flats": "(terms)", "whole": "(size)", "signed_flat": "(size)",
        "few_rows": "(value, many)",
    }),
    (maps, {
        "map_count": "(one, other)", "one_to_one_count": "(one, other)", "onto_count": "(one, other)",
        "undoable_count": "(kind)", "image_counts": "(one, other)", "kind_of_maps": "(exponents)",
        "is_images": "(group, other, value)", "maps": "(group, other)", "into_paper": "(group, other)",
        "is_into_paper": "(group, other, value)",
    }),
    (joinings, {
        "glues": "(prime, rest, inner)", "glue_count": "(rest, inner)", "joined_counts": "(rest, inner)",
        "crossed_count": "(one, other, third, fourth)", "quarter_sum": "(one, other, third, fourth)",
    }),
    (kept, {
        "kept_rows": "(kind)", "kept_part": "(group, row)", "is_kept": "(part)", "kept_paper": "(part)",
        "is_kept_paper": "(part, value)", "least_kept": "(part)", "greatest_kept": "(part)",
        "undoable_kept": "(group)", "has_odd_parts": "(prime, kind)",
    }),
    (fillings, {
        "is_filling": "(shape, contents, value)", "fillings": "(shape, contents)",
        "filling_count": "(shape, contents)", "word_of": "(filling)", "weight": "(word)",
        "weight_poly": "(shape, kind)",
    }),
    (rows, {
        "row_count": "(kind, sizes)", "flat_row_count": "(kind, sizes)", "step_row_count": "(kind, steps)",
        "rows_of_parts": "(group, sizes)", "is_row_of_parts": "(group, sizes, value)",
    }),
    (inverse, {
        "inverse": "(part, other)", "sums_below": "(group, numbers)", "inverted": "(group, sums)",
        "inverse_count": "(kind, many)", "making_count": "(kind, many)", "makes_paper": "(group, some)",
        "is_makes_paper": "(group, some, value)", "greatest_parts": "(group)", "beside_count": "(part)",
    }),
    (tables, {
        "alike_paper": "(one, other)", "is_alike_paper": "(one, other, value)",
        "left_count": "(rows, columns, many, kind)",
    }),
    (places, {
        "places": "(coordinates, index)", "index_count": "(coordinates, index)", "index_poly": "(coordinates, many)",
        "place_count": "(coordinates, kind)",
    }),
    (shares, {
        "share": "(prime, kind)", "size_share": "(prime, size)", "onto_share": "(prime, size, kind)",
        "left_share": "(prime, rows, columns, many, kind)",
    }),
    (strings, {"write_value": "(value)", "read_value": "(string)"}),
)
METHODS = (
    (polys.Poly, {
        "read": "(text)", "power": "(self, many)", "raised": "(self, many)", "turned_round": "(self, many)",
        "divided": "(self, other)", "over": "(self, other)", "__init__": "(self, factors=())",
    }),
    (kinds.Kind, {
        "read": "(text)", "holds": "(self, other)", "tops": "(self, other)", "over": "(self, other)",
        "opposite": "(self, wide, high)", "__init__": "(self, numbers=())",
    }),
    (groups.Group, {
        "__init__": "(self, prime, kind)", "members": "(self)", "plus": "(self, element, other)",
        "times": "(self, element, number)", "order_of": "(self, element)", "height_of": "(self, element)",
        "height_row_of": "(self, element)",
    }),
    (parts.Part, {"__init__": "(self, group, makers)", "of_table": "(group, table)", "holds": "(self, other)"}),
    (rings.KindSum, {"__init__": "(self, terms=None)", "of": "(kind)", "__call__": "(self, number)"}),
    (maps.GroupMap, {
        "__init__": "(self, group, other, images)", "itself": "(group)", "__call__": "(self, element)",
        "source": "(self, element)", "forth": "(self, part)", "backward": "(self, part)", "is_one_to_one": "(self)",
        "is_onto": "(self)", "is_undoable": "(self)",
    }),
    (joinings.Glue, {
        "__init__": "(self, prime, rest, inner, table)", "members": "(self)", "plus": "(self, first, second)",
        "times": "(self, first, number)", "order_of": "(self, first)",
    }),
    (tables.Table, {"__init__": "(self, prime, many, rows)", "plain": "(self)", "turnings": "(self)"}),
    (places.Place, {
        "__init__": "(self, coordinates, points)", "kind_at": "(self, prime)", "holds": "(self, other)",
    }),
    (desks.Desk, {
        "__init__": "(self, group)", "put": "(self, name, part)", "follow": "(self, name, rule, *others)",
        "drop": "(self, name)", "promise": "(self, label, promise)", "free": "(self, label)",
        "undo": "(self, *, many=1)", "redo": "(self, *, many=1)", "during": "(self, call)",
        "part_under": "(self, name)", "rule": "(self, name)", "hanging": "(self, name)", "promised": "(self, label)",
        "broken_by": "(self, name, part)", "twin": "(self)",
    }),
)
OTHERS = (
    (polys.Poly, (
        "factors", "degree", "lead", "__call__", "__add__", "__sub__", "__mul__", "__neg__", "__getitem__", "__len__",
        "__bool__", "__iter__", "__eq__", "__str__",
    )),
    (kinds.Kind, (
        "numbers", "size", "rank", "height", "slant", "turned", "repeats", "is_flat", "is_line", "__add__",
        "__getitem__", "__iter__", "__len__", "__eq__", "__lt__", "__str__",
    )),
    (groups.Group, (
        "prime", "kind", "size", "zero", "base", "orders", "__contains__", "__eq__", "__len__", "__str__",
    )),
    (parts.Part, (
        "group", "table", "kind", "rest", "other_side", "__or__", "__and__", "__contains__", "__len__", "__iter__",
        "__lt__", "__eq__", "__str__",
    )),
    (rings.KindSum, (
        "terms", "__add__", "__sub__", "__mul__", "__neg__", "__getitem__", "__contains__", "__len__", "__bool__",
        "__eq__", "__str__",
    )),
    (maps.GroupMap, (
        "group", "other", "images", "image", "kernel", "__mul__", "__add__", "__neg__", "__invert__", "__eq__",
        "__str__",
    )),
    (joinings.Glue, (
        "prime", "rest", "inner", "table", "kind", "is_split", "size", "__add__", "__neg__", "__contains__", "__eq__",
        "__str__",
    )),
    (tables.Table, (
        "prime", "exponent", "rows", "left", "is_turning", "__mul__", "__invert__", "__len__", "__iter__", "__eq__",
        "__str__",
    )),
    (places.Place, (
        "coordinates", "table", "class_count", "__or__", "__and__", "__contains__", "__eq__", "__len__", "__iter__",
        "__str__",
    )),
    (desks.Desk, ("group", "names", "labels", "deeds", "__contains__", "__len__", "__eq__", "__str__")),
)
CONSTANTS = (
    (polys, {"MAX_FACTORS": 400, "MAX_DEGREE": 2000}),
    (kinds, {"MAX_SIZE": 12}),
    (groups, {"GROUP_PRIMES": (2, 3, 5, 7), "MAX_ELEMENTS": 256}),
    (parts, {"MAX_MAKERS": 16, "MAX_PARTS": 3000}),
    (halls, {"MAX_HALL": 8}),
    (rings, {"MAX_RING": 8}),
    (maps, {"MAX_MAPS": 5000}),
    (joinings, {"MAX_JOINED": 8, "MAX_GLUED": 256, "MAX_GLUES": 2000}),
    (wholes, {"PRIMES": tuple(n for n in range(2, 98) if all(n % k for k in range(2, n)))}),
    (fillings, {"MAX_FILLINGS": 2000, "MAX_WEIGHED": 8}),
    (rows, {"MAX_ROWS": 2000, "MAX_STEPPED": 8}),
    (inverse, {"MAX_MADE": 8, "MAX_POWER": 12, "MAX_SUMMED": 100}),
    (tables, {"MAX_SIDE": 4, "MAX_LEFT": 12}),
    (places, {"MAX_COORDINATES": 4, "MAX_POINTS": 12, "MAX_INDEX": 10 ** 6, "MAX_PLACES": 3000}),
    (desks, {"MAX_NAMES": 12, "MAX_PROMISES": 12, "RULES": ("joined", "kept", "met", "side")}),
)
GENERATORS = (
    groups.Group.members, parts.parts, maps.maps, joinings.glues, joinings.Glue.members, fillings.fillings,
    rows.rows_of_parts, places.places,
)


class Interface(unittest.TestCase):
    def test_functions(self):
        for module, told in FUNCTIONS:
            for name, parameters in told.items():
                with self.subTest(name):
                    function = getattr(module, name)
                    self.assertEqual(function.__module__, module.__name__)
                    self.assertEqual(str(inspect.signature(function)), parameters)

    def test_methods(self):
        for owner, told in METHODS:
            for name, parameters in told.items():
                with self.subTest(name):
                    self.assertIn(name, vars(owner))
                    self.assertEqual(str(inspect.signature(getattr(owner, name))), parameters)

    def test_properties_and_signs(self):
        for owner, names in OTHERS:
            for name in names:
                with self.subTest(name):
                    self.assertIn(name, vars(owner))

    def test_constants(self):
        for module, told in CONSTANTS:
            for name, value in told.items():
                self.assertEqual(getattr(module, name), value, name)

    def test_generators(self):
        for function in GENERATORS:
            self.assertTrue(inspect.isgeneratorfunction(function), function)

    def test_classes_stand_in_their_files(self):
        for owner, module in (
            (polys.Poly, polys), (kinds.Kind, kinds), (groups.Group, groups), (parts.Part, parts),
            (rings.KindSum, rings), (maps.GroupMap, maps), (joinings.Glue, joinings), (tables.Table, tables),
            (places.Place, places), (desks.Desk, desks), (errors.Refused, errors),
        ):
            self.assertEqual(owner.__module__, module.__name__)


if __name__ == "__main__":
    unittest.main()
