"""Rows of parts, each within the next one, and how many there are."""

from primekinds.base.powers import power_of
from primekinds.base.wholes import is_within
from primekinds.count.counts import row_part_poly
from primekinds.errors import InvalidOperation, TooMany
from primekinds.group.groups import require_group
from primekinds.group.least import no_table
from primekinds.group.listing import due_over, tables_of_index
from primekinds.group.parts import Part, part_of
from primekinds.kind.falling import falling_rows, is_held
from primekinds.kind.kinds import MAX_SIZE, Kind, require_kind
from primekinds.poly.polys import Poly
from primekinds.ring.lots import terms_product
from primekinds.ring.steps import chained

MAX_ROWS = 2000
MAX_STEPPED = 8


def require_sizes(kind, value):
    """Refuses each value that is no tuple of integers from 1 on with the size of the kind as their sum."""
    if not isinstance(value, tuple) or not all([is_within(size, 1, MAX_SIZE) for size in value]):
        raise InvalidOperation("sizes are a tuple of integers from 1 on")
    if sum(value) != kind.size:
        raise InvalidOperation("the sum of sizes is the size of the kind")


def require_stepped(kind):
    """Refuses kinds that are too great."""
    if kind.size > MAX_STEPPED:
        raise TooMany(MAX_STEPPED)


def row_polys(row, sizes):
    """The dict from all rows that a row holds, with the sum of the sizes, to the polynomials of their rows of parts.

    The part ahead of the last one has any kind, and any rest.
    """
    found = {(): Poly((1,))}
    total = 0
    for size in sizes:
        total = total + size
        longer = {}
        for over in falling_rows(total, total):
            if is_held(over, row):
                poly = Poly()
                for under, many in found.items():
                    poly = poly + many * row_part_poly(over, under)
                longer[over] = poly
        found = longer
    return found


def row_count(kind, sizes):
    """The polynomial of the rows of parts with these sizes."""
    require_kind(kind)
    require_sizes(kind, sizes)
    require_stepped(kind)
    return row_polys(kind.numbers, sizes)[kind.numbers]


def flat_row_count(kind, sizes):
    """The polynomial of the rows of parts with these sizes all of whose steps are flat."""
    require_kind(kind)
    require_sizes(kind, sizes)
    require_stepped(kind)
    return chained(kind.numbers, (), sizes[::-1]).get((), Poly())


def require_steps(kind, value):
    """Refuses each value that is no tuple of kinds of a size from 1 on, which have the size of the kind together."""
    if not isinstance(value, tuple) or not all([isinstance(step, Kind) and step.size > 0 for step in value]):
        raise InvalidOperation("steps are a tuple of kinds of a size from 1 on")
    if sum([step.size for step in value]) != kind.size:
        raise InvalidOperation("the sizes of all steps together are the size of the kind")


def step_row_count(kind, steps):
    """The polynomial of the rows of parts with steps of these kinds."""
    require_kind(kind)
    require_steps(kind, steps)
    require_stepped(kind)
    terms = {(): Poly((1,))}
    for step in steps:
        terms = terms_product(terms, {step.numbers: Poly((1,))})
    return terms.get(kind.numbers, Poly())


def rows_of_parts(group, sizes):
    """All rows of parts with these sizes, ascending by the tables of their parts."""
    require_group(group)
    require_sizes(group.kind, sizes)
    if group.kind.size > MAX_STEPPED or row_count(group.kind, sizes)(group.prime) > MAX_ROWS:
        raise TooMany(MAX_ROWS)
    table = no_table(group.orders)
    yield from rows_above(group, table, sizes)


def rows_above(group, table, sizes):
    """All ways to go on with a row of parts from the part with a table on, ascending."""
    if len(sizes) == 0:
        yield ()
        return
    prime, orders, behind = group.prime, group.orders, sizes[1:]
    known, due, index = {}, due_over(table), power_of(prime, sum(behind))
    for next_table in tables_of_index(prime, orders, known, due, index):
        part = part_of(group, next_table)
        for row in rows_above(group, next_table, behind):
            yield (part, *row)


def is_row_of_parts(group, sizes, value):
    """Whether the value is a row of parts of the group with these sizes."""
    require_group(group)
    require_sizes(group.kind, sizes)
    if not isinstance(value, tuple) or len(value) != len(sizes):
        return False
    if not all([isinstance(part, Part) and part.group == group for part in value]):
        return False
    if not all([len(part) == power_of(group.prime, sum(sizes[:i])) for i, part in enumerate(value, start=1)]):
        return False
    return all([value[i].holds(value[i - 1]) for i in range(1, len(value))])
