"""Inverses of parts in parts, sums below parts, tuples that make a group, and parts beside parts."""

from primekinds.base.powers import power_of
from primekinds.base.wholes import is_integer, require_within
from primekinds.chain.makings import greatest_tables, makers_of_base, masks_of, within_masks
from primekinds.count.counts import all_count
from primekinds.errors import InvalidElement, InvalidOperation, TooMany
from primekinds.group.entries import is_entries, led_entries, times_entries
from primekinds.group.groups import power_poly, require_group
from primekinds.group.least import is_made
from primekinds.group.parts import Part, part_of, parts, require_part, require_same_group
from primekinds.kind.kinds import require_kind
from primekinds.maps.graphs import shared_power
from primekinds.poly.polys import binomial

MAX_MADE = 8
MAX_POWER = 12
MAX_SUMMED = 100


def inverse(part, other):
    """The inverse of the first part in the second one."""
    require_part(part)
    require_part(other)
    require_same_group(part, other)
    if not other.holds(part):
        return 0
    group = part.group
    # The rest is flat exactly if p leads all of the second part into the first one.
    led = [times_entries(group.orders, row, group.prime) for row in other.table]
    if not all([is_made(part.table, row) for row in led]):
        return 0
    many = other.kind.size - part.kind.size
    value = power_of(group.prime, many * (many - 1) // 2)
    return value if many % 2 == 0 else -value


def checked_parts(group, numbers):
    """The list of all parts of a group; refuses what is no tuple of integers with one for each part."""
    require_group(group)
    many = all_count(group.kind)(group.prime)
    if not isinstance(numbers, tuple) or len(numbers) != many:
        raise InvalidOperation("a tuple with an integer for each part is needed")
    if not all([is_integer(number) for number in numbers]):
        raise InvalidOperation("each number is an integer of at most sixty digits")
    if many > MAX_SUMMED:
        raise TooMany(MAX_SUMMED)
    return list(parts(group))


def sums_below(group, numbers):
    """The sums of the numbers of all parts that lie within each part."""
    some = checked_parts(group, numbers)
    masks = masks_of(group, some)
    return tuple([sum([numbers[i] for i in within_masks(masks, mask)]) for mask in masks])


def inverted(group, sums):
    """The numbers of all parts whose sums below are these."""
    some = checked_parts(group, sums)
    masks = masks_of(group, some)
    found = [0 for _ in some]
    # Of each part the lesser ones within it are known already, and its own number is what they leave of the sum.
    for _, i in sorted([(len(part), i) for i, part in enumerate(some)]):
        found[i] = sums[i] - sum([found[j] for j in within_masks(masks, masks[i])])
    return tuple(found)


def inverse_count(kind, many):
    """The polynomial of the inverses in a group of all parts with a flat rest of so many numbers, added up."""
    require_kind(kind)
    require_within(many, 0, MAX_POWER)
    poly = binomial(kind.rank, many).raised(many * (many - 1) // 2)
    return poly if many % 2 == 0 else -poly


def making_count(kind, many):
    """The polynomial of the tuples of so many of the group that make it."""
    require_kind(kind)
    require_within(many, 0, MAX_POWER)
    poly = power_poly(many * (kind.size - kind.rank))
    for i in range(kind.rank):
        poly = poly * (power_poly(many) - power_poly(i))
    return poly


def require_some(group, value):
    """Refuses what is no group, and each value that is no tuple of at most eight of its own."""
    require_group(group)
    if not isinstance(value, tuple) or len(value) > MAX_MADE:
        raise InvalidElement("a tuple of at most eight members of the group is needed")
    if not all([entries in group for entries in value]):
        raise InvalidElement("each member of the tuple is one of the group")


def makes_paper(group, some):
    """A paper on whether a tuple makes the group."""
    require_some(group, some)
    rows = makers_of_base(group, some)
    if rows is not None:
        return ("makes", rows)
    for table in greatest_tables(group.prime, len(group)):
        if all([is_made(table, entries) for entries in some]):
            return ("within", part_of(group, table))
    return None


def is_makes_paper(group, some, value):
    """Whether the value is such a paper."""
    require_some(group, some)
    if not isinstance(value, tuple) or len(value) != 2:
        return False
    if value[0] == "makes":
        return are_multiples(group, some, value[1])
    if value[0] != "within" or not isinstance(value[1], Part) or value[1].group != group:
        return False
    return len(value[1]) * group.prime == group.size and all([entries in value[1] for entries in some])


def are_multiples(group, some, value):
    """Whether the value tells for each of the base how often the tuple goes into it, as little as can be written."""
    bounds = (power_of(group.prime, group.kind.height),) * len(some)
    if not isinstance(value, tuple) or len(value) != len(group):
        return False
    if not all([is_entries(bounds, row) for row in value]):
        return False
    return all([led_entries(group.orders, some, row) == base for row, base in zip(value, group.base)])


def greatest_parts(group):
    """The ascending tuple of all greatest parts."""
    require_group(group)
    return tuple([part_of(group, table) for table in greatest_tables(group.prime, len(group))])


def beside_count(part):
    """How many parts stand beside a part."""
    require_part(part)
    kind, rest = part.kind, part.rest
    if (kind + rest) != part.group.kind:
        return 0
    return power_of(part.group.prime, shared_power(rest.numbers, kind.numbers))
