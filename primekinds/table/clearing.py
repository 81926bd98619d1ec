"""Rows of integers modulo a power of a prime: products, and how rows are made plain. Nothing is checked here."""

from primekinds.base.powers import inverse_in, power_in, power_of
from primekinds.group.entries import base_of


def taken_rows(modulus, rows):
    """The rows with each integer modulo an integer."""
    return tuple([tuple([entry % modulus for entry in row]) for row in rows])


def turned_rows(rows):
    """The columns as rows."""
    return [[row[j] for row in rows] for j in range(len(rows[0]))]


def product_rows(modulus, one, other):
    """The product, rows by columns."""
    columns = turned_rows(other)
    return taken_rows(modulus, [[sum([x * y for x, y in zip(row, column)]) for column in columns] for row in one])


def unit_rows(many):
    """So many rows with 1 from corner to corner and 0 elsewhere."""
    return base_of((1,) * many)


def plain_rows(prime, powers, many, columns):
    """So many rows and columns with these powers of the prime from corner to corner, and 0 elsewhere."""
    return tuple([
        tuple([power_of(prime, powers[i]) if j == i else 0 for j in range(columns)]) for i in range(many)
    ])


def rows_text(rows):
    """The text of rows: a blank between two integers, and `/` between two rows."""
    return "/".join([" ".join([str(entry) for entry in row]) for row in rows])


def swapped(rows, i, j):
    """The rows with two of them exchanged."""
    order = [j if k == i else i if k == j else k for k in range(len(rows))]
    return [rows[k] for k in order]


def scaled(rows, step, factor, modulus):
    """The rows with one of them times an integer."""
    return [[factor * entry % modulus for entry in row] if i == step else row for i, row in enumerate(rows)]


def cleared_below(rows, step, many, part, modulus):
    """The rows with 0 at the place `step` in those behind the row `step`, among the first ones, so many of them.

    They are made less by multiples of this row, which has the power `part` there; it divides what they have.
    """
    lead = rows[step]
    found = []
    for i, row in enumerate(rows):
        times = row[step] // part if step < i < many else 0
        found.append([(x - times * y) % modulus for x, y in zip(row, lead)] if times != 0 else row)
    return found


def block_of(rows):
    """The rows with unit rows behind them and below them.

    What is done to the rows is kept behind them, and what is done to the columns below them.
    """
    many, columns = len(rows), len(rows[0])
    behind = [[*row, *unit] for row, unit in zip(rows, unit_rows(many))]
    return behind + [[*unit, *[0 for _ in rows]] for unit in unit_rows(columns)]


def cleared(prime, many, rows):
    """The powers in the plain rows, and the rows of two turnings, from the left and from the right, that make them so.

    Of the integers that are left one that the prime divides least often divides all others.
    """
    modulus = power_of(prime, many)
    count, columns = len(rows), len(rows[0])
    block = block_of(rows)
    powers = []
    for step in range(min(count, columns)):
        ways = [(power_in(block[i][j], prime, many), i, j) for i in range(step, count) for j in range(step, columns)]
        power, i, j = min(ways)
        part = power_of(prime, power)
        block = turned_rows(swapped(turned_rows(swapped(block, step, i)), step, j))
        if power < many:
            unit = inverse_in(block[step][step] // part, modulus)
            block = cleared_below(scaled(block, step, unit, modulus), step, count, part, modulus)
            block = turned_rows(cleared_below(turned_rows(block), step, columns, part, modulus))
        powers.append(power)
    left = [row[columns:] for row in block[:count]]
    right = [row[:columns] for row in block[count:]]
    return tuple(powers), left, right
