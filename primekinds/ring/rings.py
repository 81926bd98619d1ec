"""Sums of kinds, their products, and sums of lots of flats."""

from primekinds.base.wholes import is_integer, is_whole, require_within
from primekinds.errors import InvalidNumber, InvalidOperation, TooMany
from primekinds.kind.falling import falling_rows, is_falling
from primekinds.kind.kinds import Kind, require_kind
from primekinds.poly.polys import Poly
from primekinds.ring.lots import added_terms, flat_lots, greatest_size, scaled_terms, terms_product, times_lots
from primekinds.ring.lots import without_zeros

MAX_RING = 8


class KindSum:
    """A sum of kinds, each with a polynomial."""

    def __init__(self, terms=None):
        if terms is not None:
            require_terms(terms)
        self._terms = {} if terms is None else without_zeros(terms)

    @classmethod
    def of(cls, kind):
        """The sum with the term 1 for one kind."""
        require_kind(kind)
        if kind.size > MAX_RING:
            raise TooMany(MAX_RING)
        return cls({kind.numbers: Poly((1,))})

    @property
    def terms(self):
        """The dict from the numbers of the kinds to their terms."""
        return {row: poly for row, poly in self._terms.items()}

    def __add__(self, other):
        if not isinstance(other, KindSum):
            return NotImplemented
        return sum_of(added_terms(self._terms, other._terms))

    def __sub__(self, other):
        if not isinstance(other, KindSum):
            return NotImplemented
        return sum_of(added_terms(self._terms, scaled_terms(other._terms, -1)))

    def __mul__(self, other):
        if isinstance(other, Poly) or is_whole(other):
            return sum_of(scaled_terms(self._terms, other))
        if not isinstance(other, KindSum):
            return NotImplemented
        if greatest_size(self._terms) + greatest_size(other._terms) > MAX_RING:
            raise TooMany(MAX_RING)
        return sum_of(terms_product(self._terms, other._terms))

    def __neg__(self):
        return sum_of(scaled_terms(self._terms, -1))

    def __getitem__(self, kind):
        require_kind(kind)
        return self._terms.get(kind.numbers, Poly())

    def __iter__(self):
        raise TypeError("a sum of kinds is not iterated over")

    def __contains__(self, value):
        return isinstance(value, Kind) and value.numbers in self._terms

    def __call__(self, number):
        """The dict from the numbers of the kinds to the values of their terms at an integer, where these are not 0."""
        if not is_integer(number):
            raise InvalidNumber(number)
        values = {row: poly(number) for row, poly in self._terms.items()}
        return {row: value for row, value in values.items() if value != 0}

    def __len__(self):
        return len(self._terms)

    def __bool__(self):
        return len(self._terms) > 0

    def __eq__(self, other):
        return isinstance(other, KindSum) and self._terms == other._terms

    def __str__(self):
        return str(terms_text(self._terms))


def sum_of(terms):
    """The sum of kinds with terms that were reckoned: their factors can be longer than those that may be passed."""
    made = KindSum()
    made._terms = without_zeros(terms)
    return made


def terms_text(terms):
    """The text of a sum of kinds."""
    words = [f"({terms[kind.numbers]}){kind}" for kind in sorted([Kind(row) for row in terms])]
    return " + ".join(words) if len(words) > 0 else "0"


def require_terms(value):
    """Refuses each value but dicts from falling rows with a sum of at most 8 to polynomials."""
    if not isinstance(value, dict):
        raise InvalidOperation("a dict is needed")
    for row, poly in value.items():
        if not is_falling(row, MAX_RING) or not isinstance(poly, Poly):
            raise InvalidOperation("each key is a falling row with a sum of at most 8, each value a polynomial")


def require_sum(value):
    """Refuses each value that is no sum of kinds."""
    if not isinstance(value, KindSum):
        raise InvalidOperation("a sum of kinds is needed")


def in_flats(value):
    """The dict from the lots of flats to their factors, for a sum of kinds."""
    require_sum(value)
    return without_zeros(flat_lots(value.terms))


def of_flats(terms):
    """The sum of kinds that is told by a dict from lots of flats to their factors."""
    require_terms(terms)
    return sum_of(times_lots({(): Poly((1,))}, terms))


def whole(size):
    """The sum of all kinds of a size."""
    require_within(size, 0, MAX_RING)
    return KindSum({row: Poly((1,)) for row in falling_rows(size, size)})


def signed_flat(size):
    """The flat kind with the term that makes it undo all kinds together."""
    require_within(size, 0, MAX_RING)
    factor = Poly((-1,)) if size % 2 == 1 else Poly((1,))
    return KindSum({(1,) * size: factor.raised(size * (size - 1) // 2)})


def few_rows(value, many):
    """The sum of kinds without the kinds of a rank above `many`."""
    require_sum(value)
    require_within(many, 0, MAX_RING)
    return sum_of({row: poly for row, poly in value.terms.items() if len(row) <= many})
