"""Glues, which put a rest and a part together, and how many give which kind."""

from primekinds.base.powers import power_of
from primekinds.base.wholes import is_integer
from primekinds.errors import InvalidElement, InvalidNumber, InvalidTable, TooMany
from primekinds.group.entries import is_entries, plus_entries, times_entries
from primekinds.group.groups import power_poly, require_group_prime
from primekinds.kind.kinds import Kind, require_kind
from primekinds.maps.glued import all_least, all_pairs, glue_numbers, is_pair, least_glue, orders_of, plus_pairs
from primekinds.maps.glued import times_pair
from primekinds.maps.graphs import shared_power, undoable_poly
from primekinds.poly.polys import Poly
from primekinds.ring.halls import pairs_in
from primekinds.ring.lots import terms_product, without_zeros

MAX_JOINED = 8
MAX_GLUED = 256
MAX_GLUES = 2000


class Glue:
    """A glue of a rest and a part, told by its least table."""

    def __init__(self, prime, rest, inner, table):
        require_kinds(prime, rest, inner)
        orders, inner_orders = orders_of(prime, rest.numbers), orders_of(prime, inner.numbers)
        if not is_glue_table(orders, inner_orders, table):
            raise InvalidTable("a table has an element of the group of the inner kind for each number of the rest")
        require_glued(prime, rest, inner)
        least = least_glue(orders, inner_orders, table)
        self._prime = prime
        self._rest = rest
        self._inner = inner
        self._orders = orders
        self._inner_orders = inner_orders
        self._table = least
        self._place = (prime, rest.numbers, inner.numbers, least)

    @property
    def prime(self):
        """The prime."""
        return self._prime

    @property
    def rest(self):
        """The kind that is put on the part."""
        return self._rest

    @property
    def inner(self):
        """The kind of the part."""
        return self._inner

    @property
    def table(self):
        """The least table."""
        return self._table

    @property
    def kind(self):
        """The kind of the group that the glue makes."""
        most = self._rest.size + self._inner.size
        return Kind(glue_numbers(self._prime, self._orders, self._inner_orders, self._table, most))

    @property
    def is_split(self):
        """Whether the least table has zeros alone."""
        return not any([any(row) for row in self._table])

    @property
    def size(self):
        """The number of pairs."""
        return power_of(self._prime, self._rest.size + self._inner.size)

    def __add__(self, other):
        if not isinstance(other, Glue):
            return NotImplemented
        if self._prime != other.prime or self._rest != other.rest or self._inner != other.inner:
            raise InvalidTable("both glues must have one prime, one rest and one inner kind")
        orders = self._inner_orders
        table = tuple([plus_entries(orders, row, other_row) for row, other_row in zip(self._table, other.table)])
        return Glue(self._prime, self._rest, self._inner, table)

    def __neg__(self):
        table = tuple([times_entries(self._inner_orders, row, -1) for row in self._table])
        return Glue(self._prime, self._rest, self._inner, table)

    def members(self):
        """All pairs, ascending."""
        yield from all_pairs(self._orders, self._inner_orders)

    def plus(self, first, second):
        """The sum of two pairs."""
        require_pair_of(self, first)
        require_pair_of(self, second)
        return plus_pairs(self._orders, self._inner_orders, self._table, first, second)

    def times(self, first, number):
        """The pair added so many times."""
        require_pair_of(self, first)
        if not is_integer(number):
            raise InvalidNumber(number)
        return times_pair(self._orders, self._inner_orders, self._table, first, number)

    def order_of(self, first):
        """The least k for which p ** k times the pair has zeros alone."""
        require_pair_of(self, first)
        pair = first
        many = 0
        while any(pair[0]) or any(pair[1]):
            pair = times_pair(self._orders, self._inner_orders, self._table, pair, self._prime)
            many += 1
        return many

    def __contains__(self, value):
        return is_pair(self._orders, self._inner_orders, value)

    def __eq__(self, other):
        return isinstance(other, Glue) and self._place == other._place

    def __str__(self):
        return f"glue of {self._rest} to {self._inner} at {self._prime}: {self.kind}"


def require_kinds(prime, rest, inner):
    """Refuses primes at which no groups are made, and what is no kind."""
    require_group_prime(prime)
    require_kind(rest)
    require_kind(inner)


def require_glued(prime, rest, inner):
    """Refuses glues with too many pairs."""
    if power_of(prime, rest.size + inner.size) > MAX_GLUED:
        raise TooMany(MAX_GLUED)


def is_glue_table(orders, inner_orders, value):
    """Whether the value has an element of the group of the inner kind for each place of the rest."""
    if not isinstance(value, tuple) or len(value) != len(orders):
        return False
    return all([is_entries(inner_orders, row) for row in value])


def require_pair_of(glue, value):
    """Refuses each value that is no pair of the glue."""
    if value not in glue:
        raise InvalidElement("a pair of the glue is needed")


def glues(prime, rest, inner):
    """All glues, by their least tables, ascending."""
    require_kinds(prime, rest, inner)
    require_glued(prime, rest, inner)
    if power_of(prime, shared_power(rest.numbers, inner.numbers)) > MAX_GLUES:
        raise TooMany(MAX_GLUES)
    for table in all_least(orders_of(prime, rest.numbers), orders_of(prime, inner.numbers)):
        yield Glue(prime, rest, inner, table)


def glue_count(rest, inner):
    """The polynomial of all glues."""
    require_kind(rest)
    require_kind(inner)
    return power_poly(shared_power(rest.numbers, inner.numbers))


def product_counts(rest, inner):
    """The dict from the numbers of the kinds to the polynomials of their parts of the inner kind with the rest."""
    return without_zeros(terms_product({rest.numbers: Poly((1,))}, {inner.numbers: Poly((1,))}))


def joined_polys(rest, inner):
    """The dict from the numbers of the kinds of glues to the polynomials of the glues with this kind."""
    times = power_poly(shared_power(rest.numbers, inner.numbers))
    times = times * undoable_poly(rest.numbers) * undoable_poly(inner.numbers)
    return {row: (poly * times).over(undoable_poly(row)) for row, poly in product_counts(rest, inner).items()}


def joined_counts(rest, inner):
    """The dict from the numbers of the kinds of glues to the polynomials of the glues with this kind."""
    require_kind(rest)
    require_kind(inner)
    require_joined(rest, inner)
    return joined_polys(rest, inner)


def require_joined(rest, inner):
    """Refuses kinds that are too great together."""
    if rest.size + inner.size > MAX_JOINED:
        raise TooMany(MAX_JOINED)


def require_crossing(one, other, third, fourth):
    """Refuses what is no kind, and crossings that are too great."""
    require_kind(one)
    require_kind(other)
    require_kind(third)
    require_kind(fourth)
    require_joined(one, other)


def fits(one, other, third, fourth):
    """Whether the sizes of the first two kinds together are those of the last two."""
    return one.size + other.size == third.size + fourth.size


def crossed_count(one, other, third, fourth):
    """The polynomial of the glues of the first two kinds with a part of the fourth kind that has the third as rest."""
    require_crossing(one, other, third, fourth)
    total = Poly()
    if not fits(one, other, third, fourth):
        return total
    counts = product_counts(third, fourth)
    for row, poly in joined_polys(one, other).items():
        total = total + poly * counts.get(row, Poly())
    return total


def quarter_sum(one, other, third, fourth):
    """The polynomial of the sum over all quarters."""
    require_crossing(one, other, third, fourth)
    total = Poly()
    if not fits(one, other, third, fourth):
        return total
    upper, lower = pairs_in(third), pairs_in(fourth)
    for (x, y), first in pairs_in(one).items():
        inner = quarters_below(other, (x, y), upper, lower)
        total = total + first * undoable_poly(x) * undoable_poly(y) * inner
    return total


def quarters_below(kind, pair, upper, lower):
    """The part of the sum over all quarters that belongs to the first two of them."""
    total = Poly()
    for (z, w), poly in pairs_in(kind).items():
        if (pair[0], z) in upper and (pair[1], w) in lower:
            counts = poly * upper[(pair[0], z)] * lower[(pair[1], w)]
            total = total + counts * undoable_poly(z) * undoable_poly(w)
    return total
