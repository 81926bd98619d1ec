"""Polynomials in p, and those that tell numbers of flat parts."""

from primekinds.base.wholes import is_integer, is_whole, require_index, require_within
from primekinds.errors import InvalidNumber, InvalidOperation, InvalidPoly, ParseError, Refused, TooMany
from primekinds.poly.factors import added, long_division, multiplied, negated, over_gap, read_row, row_text
from primekinds.poly.factors import times_gap, trimmed

MAX_FACTORS = 400
MAX_DEGREE = 2000
MAX_POWER = 40
MAX_RAISED = 400
MAX_FLAT = 24


class Poly:
    """A polynomial, told by its factors, that of p ** 0 first."""

    def __init__(self, factors=()):
        if not isinstance(factors, tuple) or len(factors) > MAX_FACTORS:
            raise InvalidPoly("factors are a tuple of at most 400 integers")
        if not all([is_integer(factor) for factor in factors]):
            raise InvalidPoly("each factor is an integer of at most sixty digits")
        self._factors = trimmed(factors)

    @classmethod
    def read(cls, text):
        """The polynomial with a text."""
        row = read_row(text, MAX_FACTORS) if isinstance(text, str) else None
        if row is None:
            raise ParseError(0)
        return cls(row)

    @property
    def factors(self):
        """The tuple of the factors; the last one is not 0."""
        return self._factors

    @property
    def degree(self):
        """The index of the last factor, -1 for the polynomial 0."""
        return len(self._factors) - 1

    @property
    def lead(self):
        """The last factor, 0 for the polynomial 0."""
        return self._factors[-1] if len(self._factors) > 0 else 0

    def __call__(self, number):
        """The value if p is the number."""
        if not is_integer(number):
            raise InvalidNumber(number)
        value = 0
        for factor in self._factors[::-1]:
            value = value * number + factor
        return value

    def __add__(self, other):
        row = operand_row(other)
        if row is None:
            return NotImplemented
        return poly_of(added(self._factors, row))

    def __sub__(self, other):
        row = operand_row(other)
        if row is None:
            return NotImplemented
        return poly_of(added(self._factors, negated(row)))

    def __mul__(self, other):
        row = operand_row(other)
        if row is None:
            return NotImplemented
        return poly_of(multiplied(self._factors, row))

    def __neg__(self):
        return poly_of(negated(self._factors))

    def power(self, many):
        """The product of so many factors, each of which is this polynomial."""
        require_within(many, 0, MAX_POWER)
        if self.degree * many > MAX_DEGREE:
            raise TooMany(MAX_DEGREE)
        row = (1,)
        for _ in range(many):
            row = trimmed(multiplied(self._factors, row))
        return poly_of(row)

    def raised(self, many):
        """The polynomial times p ** many."""
        require_within(many, 0, MAX_RAISED)
        return poly_of([0] * many + list(self._factors))

    def turned_round(self, many):
        """The polynomial with p ** i put in the place of p ** (many - i), for each i."""
        require_within(many, 0, MAX_DEGREE)
        if self.degree > many:
            raise Refused(("degree", self.degree))
        return poly_of([0] * (many - self.degree) + list(self._factors[::-1]))

    def divided(self, other):
        """The quotient by a polynomial with the lead 1 or -1, and the remainder."""
        require_divisor(other)
        if other.lead not in (1, -1):
            raise Refused(("lead", other.lead))
        quotient, left = long_division(self._factors, other.factors)
        return poly_of(quotient), poly_of(left)

    def over(self, other):
        """The polynomial whose product with the other one is this one."""
        require_divisor(other)
        quotient, left = long_division(self._factors, other.factors)
        if len(trimmed(left)) > 0:
            raise Refused(("rest",))
        return poly_of(quotient)

    def __getitem__(self, index):
        require_index(index)
        return self._factors[index] if index < len(self._factors) else 0

    def __len__(self):
        return len(self._factors)

    def __bool__(self):
        return len(self._factors) > 0

    def __iter__(self):
        return iter(self._factors)

    def __eq__(self, other):
        return isinstance(other, Poly) and self._factors == other._factors

    def __str__(self):
        return str(row_text(self._factors))


def poly_of(row):
    """The polynomial with a row of factors.

    What is reckoned can have more and longer factors than may be passed, so it
    does not go through the checks of the class.
    """
    poly = Poly()
    poly._factors = trimmed(row)
    return poly


def operand_row(value):
    """The factors of a right operand, a polynomial or an integer; None for other values."""
    if isinstance(value, Poly):
        return value.factors
    return (value,) if is_whole(value) else None


def require_poly(value):
    """Refuses each value that is no polynomial."""
    if not isinstance(value, Poly):
        raise InvalidPoly("a polynomial is needed")


def require_divisor(value):
    """Refuses each value that is no polynomial, and the polynomial 0."""
    require_poly(value)
    if len(value) == 0:
        raise InvalidOperation("nothing can be divided by the polynomial 0")


def binomial(whole, many):
    """The polynomial of the parts of the flat kind of the rank `many` in the flat kind of the rank `whole`."""
    require_within(whole, 0, MAX_FLAT)
    require_within(many, 0, MAX_FLAT)
    if many > whole:
        return Poly()
    row = [1]
    # After each step the row is the polynomial of i in whole - many + i: so each division leaves nothing.
    for i in range(1, many + 1):
        row = over_gap(times_gap(row, whole - many + i), i)
    return poly_of(row)


def heights(many):
    """The product of p ** i - 1 over all i from 1 to `many`."""
    require_within(many, 0, MAX_FLAT)
    row = [1]
    for i in range(1, many + 1):
        row = times_gap(row, i)
    return poly_of(row)


def flags(many):
    """The product of 1 + p + .. + p ** (i - 1) over all i from 1 to `many`."""
    require_within(many, 0, MAX_FLAT)
    row = [1]
    for i in range(1, many + 1):
        row = multiplied(row, [1] * i)
    return poly_of(row)
