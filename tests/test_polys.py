"""Polynomials: [1.1], [1.2] and the class of them."""

import itertools
import re
import unittest
from fractions import Fraction

from primekinds.kind.kinds import Kind
from primekinds.poly.polys import Poly
from tests.helper import error_of, is_like, odd_values

NINES = 10 ** 60 - 1
SMALL = tuple(
    row for many in range(4) for row in itertools.product((-2, -1, 0, 1, 3), repeat=many) if many == 0 or row[-1] != 0
)
FEW = SMALL[::7] + ((0, 0, 5), (NINES, 0, -NINES), (7,) * 20, tuple(range(-9, 10)), (0,) * 399 + (1,))
TERM = re.compile(r"(?:([1-9][0-9]*)|([1-9][0-9]*)?p(?:\^([1-9][0-9]*))?)")


def value_at(row, number):
    """The value of a row of factors, straight from what a factor means."""
    return sum(factor * number ** i for i, factor in enumerate(row))


def degree_of(row):
    """The greatest index of a factor other than 0, or -1."""
    return max([i for i, factor in enumerate(row) if factor != 0], default=-1)


def text_is_right(text):
    """Whether a text is one of a polynomial, told by its grammar alone."""
    if text == "0":
        return True
    words = re.split(r" ([+-]) ", text[1:] if text.startswith("-") else text)
    powers = []
    for word in words[::2]:
        match = TERM.fullmatch(word)
        if match is None or match.group(2) == "1" or match.group(3) == "1":
            return False
        factor = match.group(1) or match.group(2) or "1"
        power = 0 if match.group(1) else int(match.group(3) or "1")
        if len(factor) > 60 or power > 399:
            return False
        powers.append(power)
    return all(one > other for one, other in zip(powers, powers[1:]))


class Making(unittest.TestCase):
    def test_zeros_at_the_end_are_left_out(self):
        for row, told in (
            ((), ()), ((0,), ()), ((0, 0), ()), ((0,) * 400, ()), ((1, 0, 2, 0, 0), (1, 0, 2)), ((0, 0, 3), (0, 0, 3)),
            ((5, 0), (5,)), ((0, -1), (0, -1)),
        ):
            self.assertTrue(is_like(Poly(row).factors, told), row)
        self.assertEqual(Poly().factors, ())

    def test_degree_and_lead(self):
        for row in FEW:
            poly = Poly(row)
            degree = degree_of(row)
            self.assertEqual((poly.degree, poly.lead), (degree, row[degree] if degree >= 0 else 0))
        self.assertEqual((Poly().degree, Poly().lead, Poly((0, 0)).degree, Poly((4,)).degree), (-1, 0, -1, 0))

    def test_many_factors(self):
        self.assertEqual(len(Poly((1,) * 400)), 400)
        self.assertEqual(Poly((1,) * 400).degree, 399)
        self.assertEqual(error_of(Poly, (1,) * 401), ("InvalidPoly",))
        self.assertEqual(error_of(Poly, (0,) * 401), ("InvalidPoly",))

    def test_long_factors(self):
        self.assertEqual(Poly((NINES, -NINES)).factors, (NINES, -NINES))
        for factor in (NINES + 1, -NINES - 1, 10 ** 99):
            self.assertEqual(error_of(Poly, (factor,)), ("InvalidPoly",))
            self.assertEqual(error_of(Poly, (1, factor, 1)), ("InvalidPoly",))

    def test_wrong_factors(self):
        for value in odd_values():
            if value not in ((), (1,)):
                self.assertEqual(error_of(Poly, value), ("InvalidPoly",), value)
            self.assertEqual(error_of(Poly, (value,)), ("InvalidPoly",), value)
            self.assertEqual(error_of(Poly, (1, value, 0)), ("InvalidPoly",), value)
        for value in (0, 1, "p", "p + 1", [0, 1], {0: 1}, b"", 1.5, ((1, 2),), (1, 2.0), ("1",)):
            self.assertEqual(error_of(Poly, value), ("InvalidPoly",), value)


class Texts(unittest.TestCase):
    def test_told_texts(self):
        for row, text in (
            ((), "0"), ((1,), "1"), ((-1,), "-1"), ((0, 1), "p"), ((0, -1), "-p"), ((0, 0, 1), "p^2"),
            ((0, 0, -1), "-p^2"), ((1, -2, 0, 1), "p^3 - 2p + 1"), ((3, 0, -1), "-p^2 + 3"), ((-1, -1), "-p - 1"),
            ((-12, 10, 11), "11p^2 + 10p - 12"), ((1, 1, 1), "p^2 + p + 1"), ((0, 7, 0, -4), "-4p^3 + 7p"),
            ((0,) * 399 + (1,), "p^399"), ((NINES,), "9" * 60), ((0, -NINES), "-" + "9" * 60 + "p"),
        ):
            self.assertEqual(str(Poly(row)), text)
            self.assertTrue(is_like(Poly.read(text).factors, row), text)

    def test_texts_are_read_back(self):
        for row in SMALL + FEW:
            text = str(Poly(row))
            self.assertTrue(text_is_right(text), text)
            self.assertEqual(Poly.read(text), Poly(row))
        self.assertEqual(Poly.read(str(Poly((-3,) * 400))).factors, (-3,) * 400)

    def test_a_text_tells_the_value(self):
        for row in SMALL:
            text = re.sub(r"(\d)p", r"\1 * p", str(Poly(row))).replace("^", " ** ")
            for number in (-3, 2, 10):
                self.assertEqual(eval(text, {"p": number}), value_at(row, number), text)

    def test_texts_that_are_nearly_right(self):
        seen = set()
        for text in ("0", "1", "-1", "p", "-p", "p^2", "12p^11", "p^3 - 2p + 1", "-p^2 + 3", "10p^2 + p", "p^399 - 7"):
            for at in range(len(text) + 1):
                seen.add(text[:at] + text[at + 1:])
                for sign in "0123 +-p^*P\n":
                    seen.add(text[:at] + sign + text[at:])
                    seen.add(text[:at] + sign + text[at + 1:])
        right = 0
        for text in sorted(seen):
            if text_is_right(text):
                right += 1
                self.assertEqual(str(Poly.read(text)), text)
            else:
                self.assertEqual(error_of(Poly.read, text), ("ParseError", 0), text)
        self.assertGreater(right, 100)

    def test_told_wrong_texts(self):
        for text in (
            "", " ", "-", "+", "-0", "+1", "00", "01", "0p", "1p", "-1p", "p^1", "p^0", "p^01", "p^", "p2", "2 p",
            "p+1", "p +1", "p+ 1", "p  + 1", "p + 1 ", " p", "p ", "1 + p", "p + p", "p + p^2", "p^2 + p^2", "p + 0",
            "0 + 1", "p - -1", "p + -1", "--p", "- p", "p - ", " - p", "p + + 1", "2*p", "p**2", "P", "x", "p\n",
            "\n", "p^-1", "p^+2", "1_0", "1.0", "3p^2p", "pp", "p^2^2", "p - 2 p", "p 1", "1 1",
        ):
            self.assertEqual(error_of(Poly.read, text), ("ParseError", 0), text)

    def test_long_texts(self):
        self.assertEqual(Poly.read("9" * 60 + "p - " + "9" * 60).factors, (-NINES, NINES))
        for text in ("1" + "0" * 60, "-" + "9" * 61, "9" * 61 + "p", "p + " + "1" * 61, "9" * 3000, "p" * 3000):
            self.assertEqual(error_of(Poly.read, text), ("ParseError", 0))

    def test_great_powers(self):
        self.assertEqual(Poly.read("-2p^399").factors, (0,) * 399 + (-2,))
        for power in ("400", "401", "1000", "9" * 60, "9" * 2000):
            self.assertEqual(error_of(Poly.read, "p^" + power), ("ParseError", 0))
            self.assertEqual(error_of(Poly.read, "p^" + power + " + 1"), ("ParseError", 0))

    def test_what_is_no_text(self):
        for value in odd_values() + (0, 1, b"p", ("p",), ["p"], Poly((0, 1))):
            if value != "1":
                self.assertEqual(error_of(Poly.read, value), ("ParseError", 0), value)


class Signs(unittest.TestCase):
    def test_sums_differences_and_products(self):
        for one in FEW:
            for other in FEW:
                a, b = Poly(one), Poly(other)
                for number in (-2, 1, 3, 10 ** 9):
                    x, y = value_at(one, number), value_at(other, number)
                    self.assertEqual(value_at((a + b).factors, number), x + y)
                    self.assertEqual(value_at((a - b).factors, number), x - y)
                    self.assertEqual(value_at((a * b).factors, number), x * y)
                for made in (a + b, a - b, a * b):
                    self.assertTrue(made.factors == () or made.factors[-1] != 0)
                self.assertEqual((a * b).degree, -1 if a == Poly() or b == Poly() else a.degree + b.degree)

    def test_told_products(self):
        self.assertEqual((Poly((1, 1)) * Poly((1, -1))).factors, (1, 0, -1))
        self.assertEqual((Poly((2, 3)) * Poly((5, 0, 7))).factors, (10, 15, 14, 21))
        self.assertEqual((Poly((1, 1)) - Poly((3, 1))).factors, (-2,))
        self.assertEqual((Poly((1, 1)) + Poly((-1, -1))).factors, ())

    def test_integers_as_right_operands(self):
        for number in (0, 1, -1, 7, NINES, 10 ** 60, -10 ** 99, 10 ** 500):
            for row in FEW:
                poly, constant = Poly(row), (Poly((1,)) * number)
                self.assertEqual(constant.factors, (number,) if number else ())
                self.assertEqual(poly + number, poly + constant)
                self.assertEqual(poly - number, poly - constant)
                self.assertEqual(poly * number, poly * constant)
                self.assertEqual((poly * number).factors, tuple(number * x for x in poly.factors) if number else ())

    def test_opposite(self):
        for row in FEW:
            poly = Poly(row)
            self.assertEqual((-poly).factors, tuple(-factor for factor in poly.factors))
            self.assertEqual(poly + -poly, Poly())

    def test_operands_of_other_kinds(self):
        for value in (True, False, None, "", "p", (), (1,), [], [1], {}, 1.5, Kind(), Kind((1,)), b"p"):
            for call in (lambda a, b: a + b, lambda a, b: a - b, lambda a, b: a * b):
                self.assertEqual(error_of(call, Poly((1, 1)), value), ("TypeError",), value)
        for call in (lambda a, b: a < b, lambda a, b: a >= b, lambda a, b: a / b, lambda a, b: a % b):
            self.assertEqual(error_of(call, Poly((1, 1)), Poly((1,))), ("TypeError",))

    def test_what_grows_beyond_the_bounds_can_be_passed_on(self):
        wide, long = Poly((1,) * 400) * Poly((1,) * 400), Poly((NINES, 1)) * Poly((NINES, 1))
        self.assertEqual((wide.degree, wide[399], long[0]), (798, 400, NINES * NINES))
        self.assertEqual((wide + long) - long, wide)
        self.assertEqual(wide.over(Poly((1,) * 400)), Poly((1,) * 400))
        self.assertEqual(long.divided(Poly((NINES, 1))), (Poly((NINES, 1)), Poly()))
        self.assertEqual((wide * wide * wide).degree, 3 * 798)

    def test_equal(self):
        self.assertTrue(Poly((1, 2)) == Poly((1, 2, 0)))
        self.assertFalse(Poly((1, 2)) != Poly((1, 2, 0)))
        self.assertTrue(Poly((1, 2)) != Poly((2, 1)))
        self.assertFalse(Poly((5,)) == 5)
        self.assertFalse(Poly() == 0)
        self.assertTrue(Poly((5,)) != 5)
        for value in odd_values() + (0, 1, 5, (5,), "5", 1.5, object()):
            self.assertIs(Poly((5,)) == value, False, value)
            self.assertIs(Poly((5,)) != value, True, value)
            self.assertIs(value in (Poly((5,)),), False, value)


class Values(unittest.TestCase):
    def test_values(self):
        for row in FEW:
            for number in (0, 1, -1, 2, 97, -12):
                self.assertEqual(Poly(row)(number), value_at(row, number))
        self.assertEqual(Poly((1, 1))(NINES), NINES + 1)
        self.assertEqual(Poly()(5), 0)

    def test_wrong_numbers(self):
        for value in odd_values():
            got = error_of(Poly((1, 1)), value)
            self.assertTrue(is_like(got, ("InvalidNumber", value)), value)

    def test_items(self):
        poly = Poly((4, 0, -7))
        self.assertEqual([poly[i] for i in range(5)], [4, 0, -7, 0, 0])
        self.assertEqual((poly[NINES], Poly()[0], len(poly), len(Poly())), (0, 0, 3, 0))
        self.assertEqual((list(poly), tuple(Poly()), [x for x in poly]), ([4, 0, -7], (), [4, 0, -7]))
        for value in odd_values() + (-1, -2, -NINES):
            self.assertTrue(is_like(error_of(lambda: poly[value]), ("InvalidNumber", value)), value)

    def test_truth(self):
        self.assertEqual([bool(Poly(row)) for row in ((), (0,), (1,), (0, 1), (-1,))], [False, False, True, True, True])


class Powers(unittest.TestCase):
    def test_powers(self):
        for row in SMALL[::5]:
            made = Poly((1,))
            for many in range(6):
                self.assertEqual(Poly(row).power(many), made, row)
                made = made * Poly(row)
        self.assertEqual(Poly().power(0), Poly((1,)))
        self.assertEqual(Poly().power(40), Poly())
        self.assertEqual(Poly((0, 1)).power(40).factors, (0,) * 40 + (1,))
        self.assertEqual(Poly((2,)).power(40).factors, (2 ** 40,))

    def test_the_40th_power(self):
        row = [1]
        for _ in range(40):
            row = [x + y for x, y in zip([0] + row, row + [0])]
        self.assertEqual(Poly((1, 1)).power(40).factors, tuple(row))

    def test_wrong_numbers(self):
        for value in odd_values() + (-1, 41, 400, NINES):
            for poly in (Poly((1, 1)), Poly(), Poly((0,) * 399 + (1,))):
                self.assertTrue(is_like(error_of(poly.power, value), ("InvalidNumber", value)), value)

    def test_great_degrees(self):
        fifty = Poly((0,) * 50 + (1,))
        self.assertEqual(fifty.power(40).degree, 2000)
        self.assertEqual(error_of(Poly((0,) * 51 + (1,)).power, 40), ("TooMany", 2000))
        self.assertEqual(Poly((0,) * 51 + (1,)).power(39).degree, 1989)
        self.assertEqual(Poly((0,) * 399 + (1,)).power(5).degree, 1995)
        self.assertEqual(error_of(Poly((0,) * 399 + (1,)).power, 6), ("TooMany", 2000))
        great = fifty.power(40).raised(1)
        self.assertEqual((great.degree, great.power(0)), (2001, Poly((1,))))
        self.assertEqual(error_of(great.power, 1), ("TooMany", 2000))
        self.assertEqual(fifty.power(40).power(1), fifty.power(40))

    def test_raised(self):
        for row in FEW:
            for many in (0, 1, 2, 399, 400):
                made = Poly(row).raised(many)
                self.assertEqual(made.factors, (0,) * many + Poly(row).factors if Poly(row) else ())
        self.assertEqual(Poly((0,) * 399 + (1,)).raised(400).raised(400).raised(400).raised(400).raised(400).degree, 2399)
        for value in odd_values() + (-1, 401, NINES):
            self.assertTrue(is_like(error_of(Poly((1,)).raised, value), ("InvalidNumber", value)), value)
            self.assertTrue(is_like(error_of(Poly().raised, value), ("InvalidNumber", value)), value)

    def test_turned_round(self):
        for row in FEW:
            poly = Poly(row)
            for many in (poly.degree, poly.degree + 1, poly.degree + 5, 2000):
                if many >= 0:
                    made = poly.turned_round(many)
                    for number in (2, -3):
                        told = number ** many * sum(Fraction(f) / number ** i for i, f in enumerate(row))
                        self.assertEqual(value_at(made.factors, number), told)
                    self.assertEqual(made.turned_round(many), poly)
        self.assertEqual(Poly((0, 0, 1)).turned_round(2), Poly((1,)))
        self.assertEqual(Poly().turned_round(0), Poly())
        self.assertEqual(Poly((7,)).turned_round(0), Poly((7,)))

    def test_turned_round_refused(self):
        for value in odd_values() + (-1, 2001, NINES):
            for poly in (Poly((1, 1)), Poly(), Poly((0,) * 399 + (1,))):
                self.assertTrue(is_like(error_of(poly.turned_round, value), ("InvalidNumber", value)), value)
        self.assertEqual(error_of(Poly((1, 2, 3)).turned_round, 1), ("Refused", ("degree", 2)))
        self.assertEqual(error_of(Poly((0,) * 399 + (1,)).turned_round, 398), ("Refused", ("degree", 399)))
        great = Poly((0,) * 50 + (1,)).power(40)
        self.assertEqual(great.turned_round(2000), Poly((1,)))
        self.assertEqual(error_of(great.raised(1).turned_round, 2000), ("Refused", ("degree", 2001)))


class Quotients(unittest.TestCase):
    def test_quotient_times_divisor_plus_remainder(self):
        for one in SMALL[::3] + FEW:
            for other in SMALL[1::5] + ((1,), (-1,), (3, 0, 0, 1), (NINES, -1)):
                if other[-1] in (1, -1):
                    quotient, remainder = Poly(one).divided(Poly(other))
                    for number in (-2, 5, 10 ** 7):
                        told = value_at(quotient.factors, number) * value_at(other, number)
                        self.assertEqual(told + value_at(remainder.factors, number), value_at(one, number))
                    self.assertLess(remainder.degree, len(other) - 1)

    def test_told_quotients(self):
        for one, other, quotient, remainder in (
            ((1, 0, 1), (1, 1), (-1, 1), (2,)), ((), (1, 1), (), ()), ((5, 2), (3, 0, 1), (), (5, 2)),
            ((5, 2), (-1,), (-5, -2), ()), ((1, 2, 3), (1, -1), (-5, -3), (6,)),
        ):
            got = Poly(one).divided(Poly(other))
            self.assertIsInstance(got, tuple)
            self.assertEqual([poly.factors for poly in got], [quotient, remainder])

    def test_divided_refused(self):
        poly = Poly((1, 2, 3))
        for value in odd_values() + (0, 1, "p", (1, 1)):
            if not isinstance(value, Poly):
                self.assertEqual(error_of(poly.divided, value), ("InvalidPoly",), value)
                self.assertEqual(error_of(poly.over, value), ("InvalidPoly",), value)
        for left in (poly, Poly()):
            self.assertEqual(error_of(left.divided, Poly()), ("InvalidOperation",))
            self.assertEqual(error_of(left.over, Poly()), ("InvalidOperation",))
            for lead in (2, -2, 3, NINES):
                self.assertEqual(error_of(left.divided, Poly((1, lead))), ("Refused", ("lead", lead)))
        long = Poly((NINES,)) * NINES
        self.assertEqual(error_of(poly.divided, long), ("Refused", ("lead", NINES * NINES)))

    def test_over_undoes_products(self):
        for one in FEW:
            for other in SMALL[1::4] + FEW:
                if any(other):
                    self.assertEqual((Poly(one) * Poly(other)).over(Poly(other)), Poly(one))

    def test_over_by_fractions(self):
        for one in SMALL[::2]:
            for other in SMALL[1::3]:
                left = [Fraction(factor) for factor in one]
                quotient = {}
                while len(left) >= len(other):
                    quotient[len(left) - len(other)] = factor = left[-1] / other[-1]
                    for i, x in enumerate(other):
                        left[i + len(left) - len(other)] -= factor * x
                    left.pop()
                whole = all(factor.denominator == 1 for factor in quotient.values()) and not any(left)
                if whole:
                    told = tuple(int(quotient[i]) for i in sorted(quotient))
                    self.assertEqual(Poly(one).over(Poly(other)), Poly(told))
                else:
                    self.assertEqual(error_of(Poly(one).over, Poly(other)), ("Refused", ("rest",)), (one, other))

    def test_told_over(self):
        self.assertEqual(Poly((2, 4)).over(Poly((2,))), Poly((1, 2)))
        self.assertEqual(Poly((2, 4)).over(Poly((1, 2))), Poly((2,)))
        self.assertEqual(Poly().over(Poly((0, 0, 7))), Poly())
        for one, other in (((2, 3), (2,)), ((1,), (0, 1)), ((1, 0, 1), (1, 1)), ((1,), (2,)), ((1, 2), (1, 1, 1))):
            self.assertEqual(error_of(Poly(one).over, Poly(other)), ("Refused", ("rest",)))


class Lasting(unittest.TestCase):
    def test_nothing_changes(self):
        row = (1, 0, 2)
        poly, other = Poly(row), Poly((1, 1))
        calls = (
            lambda: poly + other, lambda: poly - other, lambda: poly * other, lambda: -poly, lambda: poly.power(3),
            lambda: poly.raised(2), lambda: poly.turned_round(5), lambda: poly.divided(other), lambda: poly(3),
            lambda: (poly * other).over(other),
        )
        for call in calls:
            self.assertEqual(call(), call())
            self.assertEqual((poly.factors, other.factors), (row, (1, 1)))
        for name in ("factors", "degree", "lead"):
            with self.assertRaises(AttributeError):
                setattr(poly, name, 5)


if __name__ == "__main__":
    unittest.main()
