"""Sums of kinds as dicts from numbers to polynomials, and as sums of lots of flats. Nothing is checked here."""

from primekinds.kind.falling import falling_rows, turned_row
from primekinds.poly.polys import Poly
from primekinds.ring.steps import times_flat


def without_zeros(terms):
    """The dict with ascending keys, and without the polynomials that are 0."""
    return {row: terms[row] for row in sorted(terms) if len(terms[row]) > 0}


def added_terms(one, other):
    """The sum of two dicts."""
    found = {row: poly for row, poly in one.items()}
    for row, poly in other.items():
        found[row] = found.get(row, Poly()) + poly
    return found


def scaled_terms(terms, factor):
    """The dict with each polynomial times a polynomial or an integer."""
    return {row: poly * factor for row, poly in terms.items()}


def greatest_size(terms):
    """The greatest size of a kind; 0 for no kinds."""
    return max([sum(row) for row in terms], default=0)


def all_lots(most):
    """The dict from all lots of flats with a sum of at most so many to their products."""
    lots = {(): {(): Poly((1,))}}
    for size in range(1, most + 1):
        for lot in falling_rows(size, size):
            lots[lot] = times_flat(lots[lot[1:]], lot[0])
    return lots


def flat_lots(terms):
    """The dict from the lots of flats whose products, each times its factor, make a sum of kinds.

    The lot of a kind has this kind once, and beside it only kinds of its size that come behind it.
    """
    most = greatest_size(terms)
    lots = all_lots(most)
    left = terms
    found = {}
    for row in [row for size in range(most + 1) for row in falling_rows(size, size)]:
        factor = left.get(row, Poly())
        if len(factor) > 0:
            lot = turned_row(row)
            found[lot] = factor
            left = added_terms(left, scaled_terms(lots[lot], -factor))
    return found


def times_lots(terms, lots):
    """The product of a sum of kinds and a sum of lots of flats, one flat kind for all lots that begin with it."""
    found = scaled_terms(terms, lots.get((), Poly()))
    for first in sorted({lot[0] for lot in lots if len(lot) > 0}):
        behind = {lot[1:]: factor for lot, factor in lots.items() if lot[:1] == (first,)}
        found = added_terms(found, times_flat(times_lots(terms, behind), first))
    return found


def terms_product(one, other):
    """The product of two sums of kinds."""
    if greatest_size(one) < greatest_size(other):
        one, other = other, one
    return times_lots(one, flat_lots(other))
