"""How many parts a group has, of each kind and of each size, for all primes at once."""

from primekinds.base.wholes import require_within
from primekinds.errors import InvalidPoly
from primekinds.kind.falling import is_held, number_at, turned_row
from primekinds.kind.kinds import kinds_of, kinds_within, require_kind
from primekinds.poly.polys import Poly, binomial

MAX_POLYS = 13


def held_poly(row, inner):
    """The polynomial of the parts with the numbers `inner`, for a kind that holds them; both rows are turned."""
    poly = Poly((1,))
    power = 0
    for i, number in enumerate(inner):
        behind = number_at(inner, i + 1)
        power = power + behind * (row[i] - number)
        # Otherwise the polynomial of the flat parts is 1.
        if behind < number < row[i]:
            poly = poly * binomial(row[i] - behind, number - behind)
    return poly.raised(power)


def row_part_poly(row, inner):
    """The polynomial of the parts with the numbers `inner` in a group with the numbers `row`."""
    if not is_held(inner, row):
        return Poly()
    return held_poly(turned_row(row), turned_row(inner))


def part_count(kind, inner):
    """The polynomial of the parts of the kind `inner`."""
    require_kind(kind)
    require_kind(inner)
    return row_part_poly(kind.numbers, inner.numbers)


def size_polys(kind):
    """The list of the polynomials of the parts of each size."""
    turned = turned_row(kind.numbers)
    found = [Poly() for _ in range(kind.size + 1)]
    for inner in kinds_within(kind):
        found[inner.size] = found[inner.size] + held_poly(turned, turned_row(inner.numbers))
    return found


def size_count(kind, many):
    """The polynomial of the parts with p ** many elements."""
    require_kind(kind)
    require_within(many, 0, kind.size)
    return size_polys(kind)[many]


def by_size(kind):
    """The tuple of the polynomials of the parts of each size."""
    require_kind(kind)
    return tuple(size_polys(kind))


def all_count(kind):
    """The polynomial of all parts."""
    require_kind(kind)
    total = Poly()
    for poly in size_polys(kind):
        total = total + poly
    return total


def kind_counts(kind):
    """The dict from the numbers of all kinds that a kind holds to the polynomials of the parts of these kinds."""
    require_kind(kind)
    rows = sorted([inner.numbers for inner in kinds_within(kind)])
    return {row: row_part_poly(kind.numbers, row) for row in rows}


def kind_of_counts(polys):
    """The kind with this count by size, or None."""
    if not isinstance(polys, tuple) or len(polys) > MAX_POLYS:
        raise InvalidPoly("a count by size is a tuple of at most thirteen polynomials")
    if not all([isinstance(poly, Poly) for poly in polys]):
        raise InvalidPoly("each member of a count by size is a polynomial")
    if len(polys) == 0:
        return None
    # The parts with p elements alone tell the rank, and the values at 1 tell the kind.
    rank = len(polys[1]) if len(polys) > 1 else 0
    for kind in kinds_of(len(polys) - 1):
        if kind.rank == rank and tuple_sums(kind.numbers) == [poly_sum(poly) for poly in polys]:
            return kind if tuple(size_polys(kind)) == polys else None
    return None


def poly_sum(poly):
    """The value of a polynomial at 1."""
    return sum(poly.factors)


def tuple_sums(numbers):
    """The list that has for each sum how many tuples have it, with integers from 0 to the numbers as members."""
    found = [1]
    for number in numbers:
        longer = len(found) + number
        found = [sum(found[max(0, total - number):total + 1]) for total in range(longer)]
    return found


def tuples_within(kind, inner):
    """How many tuples have integers from 0 to the numbers of the kind, and those of `inner` as members other than 0."""
    require_kind(kind)
    require_kind(inner)
    many = 1
    # The greatest numbers are put first, so that each place for one of them is one for each later number, too.
    for index, number in enumerate(inner.numbers):
        many = many * (len([high for high in kind.numbers if high >= number]) - index)
    for times in inner.repeats.values():
        many = many // product_to(times)
    return many


def product_to(many):
    """The product of the integers from 1 to this one."""
    value = 1
    for factor in range(2, many + 1):
        value = value * factor
    return value
