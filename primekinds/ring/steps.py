"""Flat steps between the numbers of kinds, and the polynomials of the flat parts that they tell.

All rows are falling rows. Nothing is checked here.
"""

from primekinds.kind.falling import is_flat_step, is_held, number_at, slant_of, turned_row
from primekinds.poly.polys import Poly, binomial


def flat_poly(row, rest):
    """The polynomial of the flat parts with a rest in a group with the numbers `row`."""
    if not is_flat_step(row, rest):
        return Poly()
    many = sum(row) - sum(rest)
    power = slant_of(row) - slant_of(rest) - many * (many - 1) // 2
    poly = Poly((1,))
    turned, under = turned_row(row), turned_row(rest)
    for i, number in enumerate(turned):
        behind = number_at(turned, i + 1)
        out = number - number_at(under, i)
        power = power - out * (number - out - behind)
        # Otherwise the polynomial of the flat parts is 1.
        if 0 < out < number - behind:
            poly = poly * binomial(number - behind, out)
    return poly.raised(power)


def rows_under(row, many):
    """All rows from which a row comes by a flat step of so many."""
    found = [()]
    for number in row:
        found = [
            (*made, least)
            for made in found for least in (number, number - 1) if len(made) == 0 or least <= made[-1]
        ]
    total = sum(row) - many
    return [tuple([number for number in made if number > 0]) for made in found if sum(made) == total]


def rows_over(row, many):
    """All rows that come from a row by a flat step of so many."""
    found = [()]
    for number in row:
        found = [
            (*made, most)
            for made in found for most in (number + 1, number) if len(made) == 0 or most <= made[-1]
        ]
    total = sum(row) + many
    return [made + (1,) * (total - sum(made)) for made in found if sum(made) <= total]


def chained(row, rest, steps):
    """The dict from the rows at the end of all flat steps down from a row to the sums of the products of their counts.

    All rows hold `rest`.
    """
    found = {row: Poly((1,))}
    for step in steps:
        below = {}
        for over, poly in found.items():
            for under in rows_under(over, step):
                if is_held(rest, under):
                    below[under] = below.get(under, Poly()) + poly * flat_poly(over, under)
        found = below
    return found


def times_flat(terms, many):
    """The product of a sum of kinds, by rows, and the flat kind with so many numbers."""
    found = {}
    for row, poly in terms.items():
        for over in rows_over(row, many):
            found[over] = found.get(over, Poly()) + poly * flat_poly(over, row)
    return found
