"""Least tables: the one triangle of rows that makes a part of a group. Nothing is checked here.

An echelon is a tuple or list of rows, one for each place, with 0 ahead of their own place and a divisor of the order
of the place there; the tuples with the order at one place and 0 elsewhere are sums of multiples of its rows. All
orders are powers of one prime. A least table is an echelon in which each number behind its own place is as little as
can be.
"""

from math import gcd

from primekinds.base.powers import inverse_in, power_in, power_of
from primekinds.group.entries import taken_in


def less_times(row, other, times):
    """The row less so many times the other one."""
    return tuple([x - times * y for x, y in zip(row, other)])


def no_table(orders):
    """The least table of the part with the element 0 alone."""
    many = len(orders)
    return tuple([tuple([order if i == place else 0 for i in range(many)]) for place, order in enumerate(orders)])


def with_row(orders, echelon, row):
    """The echelon of what the rows of an echelon make together with one row more.

    At each place the one with the lesser power stays, and what is left of the other one goes on to the next place.
    """
    made = []
    left = row
    for i, old in enumerate(echelon):
        if left[i] % old[i] == 0:
            lead, left = old, less_times(left, old, left[i] // old[i])
        else:
            part = gcd(left[i], orders[i])
            unit = inverse_in(left[i] // part, max(orders))
            lead = taken_in(orders, [unit * entry for entry in left])
            left = less_times(old, lead, old[i] // part)
        made.append(lead)
        left = taken_in(orders, left)
    return made


def made_least(echelon):
    """The least table of an echelon."""
    done = []
    for row in echelon[::-1]:
        least = row
        for place, lower in enumerate(done, start=len(row) - len(done)):
            least = less_times(least, lower, least[place] // lower[place])
        done = [least] + done
    return tuple(done)


def joined_table(orders, table, rows):
    """The least table of what a table and some rows make together."""
    if len(rows) == 0:
        return table
    echelon = table
    for row in rows:
        echelon = with_row(orders, echelon, row)
    return made_least(echelon)


def least_table(orders, rows):
    """The least table of the part made by some rows."""
    return joined_table(orders, no_table(orders), rows)


def taken_off(table, row):
    """How often the rows of a table go into a row, and what is left: zeros alone for a row that they make."""
    many = []
    left = row
    for i, lower in enumerate(table):
        times = left[i] // lower[i]
        many.append(times)
        left = less_times(left, lower, times)
    return tuple(many), left


def is_made(table, row):
    """Whether the row is a sum of multiples of the rows of a table."""
    return not any(taken_off(table, row)[1])


def quotients(orders, table):
    """The rows of integers whose product with the table has the orders from corner to corner, and 0 elsewhere."""
    return [taken_off(table, row)[0] for row in no_table(orders)]


def side_rows(orders, table):
    """Elements that make the other side of a part."""
    rows = quotients(orders, table)
    return [taken_in(orders, [row[i] for row in rows]) for i in range(len(rows))]


def side_table(orders, table):
    """The least table of the other side of a part."""
    return least_table(orders, side_rows(orders, table))


def table_members(orders, table):
    """The ascending tuple of the elements of a part."""
    found = [(0,) * len(orders)]
    for i, row in enumerate(table):
        # Behind the place i the integers tell what the multiples so far have there; often that need not change.
        found = [
            less_times(sums, row, (sums[i] - entry) // row[i]) if entry != sums[i] else sums
            for sums in found for entry in range(sums[i] % row[i], orders[i], row[i])
        ]
    return tuple(found)


def left_numbers(prime, rows, most):
    """The numbers of the kind that is left of all tuples of integers modulo some rows, none greater than `most`.

    There are as many rows as places. Of all entries one that the prime divides least often is taken: its row and its
    place leave a number of the kind, and are struck out.
    """
    modulus = power_of(prime, most + 1)
    left = rows
    found = []
    for _ in range(len(rows)):
        ways = [(power_in(x, prime, most), i, j) for i, row in enumerate(left) for j, x in enumerate(row)]
        power, i, j = min(ways)
        found.append(power)
        left = struck_out(left, i, j, power_of(prime, power), modulus)
    return tuple([power for power in found[::-1] if power > 0])


def struck_out(rows, i, j, part, modulus):
    """The rows but one, each cleared at one place by the row i, and without this place; `part` is what divides all."""
    lead = rows[i]
    unit = lead[j] // part
    cleared = [[(unit * x - row[j] // part * y) % modulus for x, y in zip(row, lead)] for row in rows]
    return [row[:j] + row[j + 1:] for row in cleared[:i] + cleared[i + 1:]]
