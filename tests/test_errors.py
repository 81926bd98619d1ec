"""The errors: [0.23]."""

import unittest

import primekinds.errors as errors

PLAIN = (
    "InvalidPoly", "InvalidKind", "InvalidGroup", "InvalidElement", "InvalidPart", "InvalidMap", "InvalidFilling",
    "InvalidTable", "InvalidPlace", "InvalidOperation",
)
KEEPING = (
    ("ParseError", errors.KindsError, "index"),
    ("InvalidNumber", IndexError, "value"),
    ("UnknownName", KeyError, "name"),
    ("TooMany", OverflowError, "limit"),
    ("Refused", ArithmeticError, "reason"),
    ("NothingToUndo", LookupError, "many"),
)
VALUES = (0, 3, -1, None, True, "x", "", (), ("size", 4, 2), [1], {1: 2}, 10 ** 99)


class Errors(unittest.TestCase):
    def test_base(self):
        self.assertEqual(errors.KindsError.__bases__, (ValueError,))
        self.assertEqual(str(errors.KindsError("words")), "words")

    def test_plain_ones_are_derived_from_the_base_alone(self):
        for name in PLAIN:
            with self.subTest(name):
                error = getattr(errors, name)
                self.assertEqual(error.__bases__, (errors.KindsError,))
                self.assertEqual(error.__module__, "primekinds.errors")
                self.assertEqual(str(error("words")), "words")

    def test_keeping_ones_are_derived_as_told(self):
        for name, base, _ in KEEPING:
            with self.subTest(name):
                error = getattr(errors, name)
                self.assertEqual(error.__bases__, (base,))
                self.assertEqual(error.__module__, "primekinds.errors")
                self.assertEqual(issubclass(error, errors.KindsError), name == "ParseError")

    def test_keeping_ones_keep_any_value(self):
        for name, _, kept in KEEPING:
            for value in VALUES:
                with self.subTest(name, value=value):
                    self.assertIs(getattr(getattr(errors, name)(value), kept), value)

    def test_they_are_raised_with_what_they_keep(self):
        for name, base, kept in KEEPING:
            with self.subTest(name):
                with self.assertRaises(base) as caught:
                    raise getattr(errors, name)(("word", 1))
                self.assertEqual(getattr(caught.exception, kept), ("word", 1))

    def test_names_of_what_is_kept(self):
        for name, _, kept in KEEPING:
            with self.subTest(name):
                self.assertEqual(getattr(getattr(errors, name)(**{kept: 5}), kept), 5)


if __name__ == "__main__":
    unittest.main()
