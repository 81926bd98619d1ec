"""What glues are made of: pairs of tuples, and their sums. Nothing is checked here.

A glue is told by the orders of the places of its rest, those of the places of its inner kind, and its least table.
"""

from primekinds.base.powers import power_of
from primekinds.group.entries import all_entries, is_entries, led_entries, plus_entries, taken_in, times_entries
from primekinds.group.least import left_numbers


def orders_of(prime, numbers):
    """The orders of the places of the group with these numbers."""
    return tuple([power_of(prime, number) for number in numbers])


def least_glue(orders, inner_orders, table):
    """The least table that tells the same glue."""
    return tuple([
        tuple([entry % min(order, inner) for entry, inner in zip(row, inner_orders)])
        for row, order in zip(table, orders)
    ])


def all_least(orders, inner_orders):
    """The ascending list of all least tables."""
    found = [()]
    for order in orders:
        rows = all_entries([min(order, inner) for inner in inner_orders])
        found = [(*table, row) for table in found for row in rows]
    return found


def glue_numbers(prime, orders, inner_orders, table, most):
    """The numbers of the kind of a glue with a size of at most `most`.

    Its places are those of the rest and those of the inner kind. So often as its order says, a place of the rest is
    the row of the table.
    """
    many, inner_many = len(orders), len(inner_orders)
    rows = [
        [order if j == i else 0 for j in range(many)] + [-entry for entry in table[i]] for i, order in enumerate(orders)
    ]
    inner_rows = [
        [0] * many + [order if j == i else 0 for j in range(inner_many)] for i, order in enumerate(inner_orders)
    ]
    return left_numbers(prime, rows + inner_rows, most)


def is_pair(orders, inner_orders, value):
    """Whether the value is a pair of the glue."""
    if not isinstance(value, tuple) or len(value) != 2:
        return False
    return is_entries(orders, value[0]) and is_entries(inner_orders, value[1])


def all_pairs(orders, inner_orders):
    """The ascending list of all pairs."""
    behind = all_entries(inner_orders)
    return [(entries, inner) for entries in all_entries(orders) for inner in behind]


def carried(orders, inner_orders, table, row, inner):
    """The pair for a tuple of integers of any size and an element: what is too much goes over by the table."""
    over = [entry // order for entry, order in zip(row, orders)]
    return taken_in(orders, row), plus_entries(inner_orders, inner, led_entries(inner_orders, table, over))


def plus_pairs(orders, inner_orders, table, first, second):
    """The sum of two pairs."""
    row = [x + y for x, y in zip(first[0], second[0])]
    return carried(orders, inner_orders, table, row, plus_entries(inner_orders, first[1], second[1]))


def times_pair(orders, inner_orders, table, pair, number):
    """A pair added so many times."""
    row = [entry * number for entry in pair[0]]
    return carried(orders, inner_orders, table, row, times_entries(inner_orders, pair[1], number))
