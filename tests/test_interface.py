"""What the interface lists stands under its name, in its own file and class."""

import inspect
import unittest

import primekinds.base.wholes as wholes
import primekinds.kind.kinds as kinds
import primekinds.poly.polys as polys

FUNCTIONS = (
    (wholes, {"is_integer": "(value)", "is_prime": "(value)"}),
    (polys, {"binomial": "(whole, many)", "heights": "(many)", "flags": "(many)"}),
    (kinds, {
        "kinds_of": "(size)", "kinds_within": "(kind)", "flats_over": "(kind, many)", "lines_over": "(kind, many)",
    }),
)
METHODS = (
    (polys.Poly, {
        "read": "(text)", "power": "(self, many)", "raised": "(self, many)", "turned_round": "(self, many)",
        "divided": "(self, other)", "over": "(self, other)", "__init__": "(self, factors=())",
    }),
    (kinds.Kind, {
        "read": "(text)", "holds": "(self, other)", "tops": "(self, other)", "over": "(self, other)",
        "opposite": "(self, wide, high)", "__init__": "(self, numbers=())",
    }),
)
OTHERS = (
    (polys.Poly, (
        "factors", "degree", "lead", "__call__", "__add__", "__sub__", "__mul__", "__neg__", "__getitem__", "__len__",
        "__bool__", "__iter__", "__eq__", "__str__",
    )),
    (kinds.Kind, (
        "numbers", "size", "rank", "height", "slant", "turned", "repeats", "is_flat", "is_line", "__add__",
        "__getitem__", "__iter__", "__len__", "__eq__", "__lt__", "__str__",
    )),
)


class Interface(unittest.TestCase):
    def test_functions(self):
        for module, told in FUNCTIONS:
            for name, parameters in told.items():
                with self.subTest(name):
                    function = getattr(module, name)
                    self.assertEqual(function.__module__, module.__name__)
                    self.assertEqual(str(inspect.signature(function)), parameters)

    def test_methods(self):
        for owner, told in METHODS:
            for name, parameters in told.items():
                with self.subTest(name):
                    self.assertIn(name, vars(owner))
                    self.assertEqual(str(inspect.signature(getattr(owner, name))), parameters)

    def test_properties_and_signs(self):
        for owner, names in OTHERS:
            for name in names:
                with self.subTest(name):
                    self.assertIn(name, vars(owner))

    def test_constants(self):
        self.assertEqual((polys.MAX_FACTORS, polys.MAX_DEGREE, kinds.MAX_SIZE), (400, 2000, 12))

    def test_classes_stand_in_their_files(self):
        self.assertEqual(polys.Poly.__module__, "primekinds.poly.polys")
        self.assertEqual(kinds.Kind.__module__, "primekinds.kind.kinds")


if __name__ == "__main__":
    unittest.main()
