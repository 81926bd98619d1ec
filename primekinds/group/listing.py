"""Least tables one after the other, ascending, without making a list of them all. Nothing is checked here.

A table is made from its first row on. What a row asks of the rows behind it is told by a pair, what they are `due`: the
least table of what they must make, on their own places, and for each of these places the least power that can stand at
it from corner to corner. The first of both is a table with the greatest powers that can stand there, so there are such
rows exactly if none of its powers is less than the least one. `known` keeps the rows that were found for what is due:
many tables ask for the same.
"""

from primekinds.base.powers import power_of
from primekinds.group.entries import base_of
from primekinds.group.least import is_made, joined_table, less_times


def due_over(table):
    """What is due where the parts must hold the part with a table, and nothing else."""
    return table, (1,) * len(table)


def product_of(numbers):
    """The product of some integers."""
    value = 1
    for number in numbers:
        value = value * number
    return value


def corners(rows):
    """The powers from corner to corner."""
    return [row[i] for i, row in enumerate(rows)]


def power_above(prime, number):
    """The least power of the prime that is greater than the number."""
    power = 1
    while power <= number:
        power = power * prime
    return power


def entries_at(bounds, index):
    """The tuple with an index among all that have integers from 0 on below the bounds, in their order."""
    entries = ()
    left = index
    for bound in bounds[::-1]:
        entries = (left % bound, *entries)
        left = left // bound
    return entries


def due_behind(prime, orders, due, power, entries):
    """What is due behind a row with a power and these entries; None if there are no such rows."""
    made, least = due
    behind = tuple([row[1:] for row in made[1:]])
    times = made[0][0] // power
    # So often the row has the power of the first row that must be made; what is then left must be made by the others.
    left = less_times([times * entry for entry in entries], made[0][1:], 1)
    asked = tuple([max(low, power_above(prime, entry)) for low, entry in zip(least[1:], entries)])
    if not is_made(behind, left):
        behind = joined_table(orders[len(orders) - len(behind):], behind, [left])
    if not all([corner >= low for corner, low in zip(corners(behind), asked)]):
        return None
    return behind, asked


def found_step(prime, orders, due, start):
    """The first row from an index on that can come first, what is due behind it, and the next index; None if none can.

    The index counts all rows with powers that divide those of the table that must be made; zeros stand ahead of them.
    """
    made, least = due
    bounds = corners(made)[1:]
    many = product_of(bounds)
    index = start
    power = least[0] * power_of(prime, index // many)
    while power <= made[0][0]:
        entries = entries_at(bounds, index % many)
        index += 1
        behind = due_behind(prime, orders, due, power, entries)
        if behind is not None:
            return (*[0 for _ in orders[len(made):]], power, *entries), behind, index
        power = least[0] * power_of(prime, index // many)
    return None


def known_step(prime, orders, known, due, start):
    """The same; each step is kept when it was found."""
    if (due, start) not in known:
        known[(due, start)] = found_step(prime, orders, due, start)
    return known[(due, start)]


def tables_due(prime, orders, known, due):
    """All tables that make what is due, ascending."""
    if len(due[0]) == 0:
        yield ()
        return
    step = known_step(prime, orders, known, due, 0)
    while step is not None:
        row, behind, start = step
        for table in tables_due(prime, orders, known, behind):
            yield (row, *table)
        step = known_step(prime, orders, known, due, start)


def with_zeros(orders, rows):
    """The last rows of a table with zeros ahead of them."""
    return tuple([(*[0 for _ in orders[len(rows):]], *row) for row in rows])


def tables_of_index(prime, orders, known, due, index):
    """Those of these tables whose powers from corner to corner have a product, ascending."""
    made = due[0]
    if index == 1:
        yield with_zeros(orders, base_of(made))
        return
    if index == product_of(corners(made)):
        yield with_zeros(orders, made)
        return
    step = known_step(prime, orders, known, due, 0)
    while step is not None:
        row, behind, start = step
        left = index // row[len(orders) - len(made)]
        if product_of(behind[1]) <= left <= product_of(corners(behind[0])):
            for table in tables_of_index(prime, orders, known, behind, left):
                yield (row, *table)
        step = known_step(prime, orders, known, due, start)
