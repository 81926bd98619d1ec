"""Parts that own maps keep, and parts that undoable own maps keep."""

from primekinds.base.powers import power_in, power_of
from primekinds.base.wholes import is_prime
from primekinds.errors import InvalidNumber, InvalidOperation
from primekinds.group.entries import are_images, base_of, led_entries, taken_in, times_entries
from primekinds.group.groups import require_group
from primekinds.group.least import is_made, joined_table, least_table, no_table
from primekinds.group.parts import part_of, require_part
from primekinds.group.standing import is_kept_row, is_sharp, kept_rows_of
from primekinds.kind.kinds import require_kind


def kept_rows(kind):
    """The ascending tuple of all kept rows of a kind."""
    require_kind(kind)
    return tuple(kept_rows_of(kind.numbers))


def row_table(prime, row):
    """The least table of the part of all elements whose entries are multiples of these powers of the prime."""
    many = len(row)
    return tuple([tuple([power_of(prime, row[i]) if j == i else 0 for j in range(many)]) for i in range(many)])


def kept_part(group, row):
    """The part of a kept row."""
    require_group(group)
    if not is_kept_row(group.kind.numbers, row):
        raise InvalidOperation("a kept row of the kind of the group is needed")
    return part_of(group, row_table(group.prime, row))


def corner_row(part):
    """How often the prime divides the numbers from corner to corner of the least table."""
    group = part.group
    powers = [power_in(row[i], group.prime, group.kind.numbers[i]) for i, row in enumerate(part.table)]
    return tuple(powers)


def row_of_part(part):
    """The kept row of which it is the part, or None."""
    row = corner_row(part)
    if is_kept_row(part.group.kind.numbers, row) and part.table == row_table(part.group.prime, row):
        return row
    return None


def is_kept(part):
    """Whether all own maps keep the part."""
    require_part(part)
    return row_of_part(part) is not None


def place_images(group, place, target):
    """The images of the own map that leads one place to another one as low as can be, and all other places to 0."""
    orders = group.orders
    gap = max(1, orders[target] // orders[place])
    lifted = times_entries(orders, base_of(orders)[target], gap)
    return tuple([lifted if i == place else group.zero for i in range(len(orders))])


def kept_paper(part):
    """A paper on whether all own maps keep the part."""
    require_part(part)
    row = row_of_part(part)
    if row is not None:
        return ("kept", row)
    # Each own map is a sum of multiples of those that lead one place to one place.
    group = part.group
    indices = range(len(group))
    for images in [place_images(group, place, target) for place in indices for target in indices]:
        for maker in part.table:
            element = taken_in(group.orders, maker)
            if not is_made(part.table, led_entries(group.orders, images, element)):
                return ("out", images, element)
    return None


def is_kept_paper(part, value):
    """Whether the value is such a paper."""
    require_part(part)
    group = part.group
    if not isinstance(value, tuple) or len(value) < 2:
        return False
    if value[0] == "kept" and len(value) == 2:
        return is_kept_row(group.kind.numbers, value[1]) and part.table == row_table(group.prime, value[1])
    if value[0] != "out" or len(value) != 3 or not are_images(group.orders, group.orders, value[1]):
        return False
    return value[2] in part and led_entries(group.orders, value[1], value[2]) not in part


def least_row(part):
    """The kept row of the least kept part that holds a part."""
    group = part.group
    numbers = group.kind.numbers
    powers = [
        min([power_in(row[i], group.prime, number) for row in part.table]) for i, number in enumerate(numbers)
    ]
    return tuple([
        min([power + max(0, number - other) for power, other in zip(powers, numbers)]) for number in numbers
    ])


def least_kept(part):
    """The least kept part that holds the part."""
    require_part(part)
    return part_of(part.group, row_table(part.group.prime, least_row(part)))


def greatest_kept(part):
    """The greatest kept part that lies within the part."""
    require_part(part)
    return least_kept(part.other_side).other_side


def orbit_table(group, powers):
    """The least table of what all elements make to which undoable own maps lead the element with these powers.

    Where the power is sharp, the entries of such elements are units times a power of the prime. At 2 two units differ
    by a multiple of 2; so a place whose number stands there once is bound to the others by the element itself.
    """
    numbers = group.kind.numbers
    prime = group.prime
    bound = [
        1 if prime == 2 and numbers.count(number) == 1 and is_sharp(numbers, powers, place) else 0
        for place, number in enumerate(numbers)
    ]
    element = taken_in(group.orders, [power_of(prime, power) for power in powers])
    table = least_table(group.orders, row_table(prime, [power + more for power, more in zip(powers, bound)]))
    return joined_table(group.orders, table, [element])


def undoable_kept(group):
    """The tuple of all parts that all undoable own maps keep, by their tables, ascending.

    Each such part has all elements to which undoable own maps lead one of its own; so it is made by parts that are
    made by such elements.
    """
    require_group(group)
    makers = [orbit_table(group, powers) for powers in kept_rows_of(group.kind.numbers)]
    found = [no_table(group.orders)]
    for maker in makers:
        more = [joined_table(group.orders, table, maker) for table in found]
        found = sorted(set(found + more))
    return tuple([part_of(group, table) for table in found])


def has_odd_parts(prime, kind):
    """Whether the groups of the kind have a part that all undoable own maps keep, but not all own maps."""
    if not is_prime(prime):
        raise InvalidNumber(prime)
    require_kind(kind)
    if prime != 2:
        return False
    once = [number for number, many in kind.repeats.items() if many == 1]
    # They ascend: so the last one and the first one are farthest from each other.
    return len(once) > 0 and once[-1] - once[0] >= 2
