"""Shares of kinds: one over the number of their undoable own maps, and what they add up to.

Shares are pairs of a top and a bottom without a common divisor.
"""

from math import gcd

from primekinds.base.powers import power_of
from primekinds.base.wholes import is_prime, require_within
from primekinds.errors import InvalidNumber
from primekinds.kind.kinds import MAX_SIZE, require_kind
from primekinds.maps.maps import undoable_count
from primekinds.poly.polys import heights
from primekinds.table.tables import left_count


def lowest(top, bottom):
    """The pair without common divisors; the bottom is above 0."""
    part = gcd(top, bottom)
    return top // part, bottom // part


def require_prime(value):
    """Refuses each value that is no prime."""
    if not is_prime(value):
        raise InvalidNumber(value)


def share(prime, kind):
    """One over the number of the undoable own maps."""
    require_prime(prime)
    require_kind(kind)
    return 1, undoable_count(kind)(prime)


def size_share(prime, size):
    """The sum of the shares of all kinds of a size."""
    require_prime(prime)
    require_within(size, 0, MAX_SIZE)
    # Each 1 - p ** -i is p ** i - 1 over p ** i.
    return lowest(power_of(prime, size * (size - 1) // 2), heights(size)(prime))


def onto_share(prime, size, kind):
    """The sum, over all kinds of a size, of the share times the number of the maps onto a kind."""
    require_prime(prime)
    require_within(size, 0, MAX_SIZE)
    require_kind(kind)
    if size < kind.size:
        return 0, 1
    return size_share(prime, size - kind.size)


def left_share(prime, rows, columns, many, kind):
    """The part of all tables that have a left kind."""
    require_prime(prime)
    top = left_count(rows, columns, many, kind)(prime)
    return lowest(top, power_of(prime, many * rows * columns))
