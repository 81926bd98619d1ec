"""Which parts lie within which ones, the tables of greatest parts, and how elements make a group.

Nothing is checked here.
"""

from primekinds.base.powers import power_of
from primekinds.group.entries import all_entries, base_of
from primekinds.maps.graphs import graph_table, least_source


def masks_of(group, some):
    """An integer for each part, with a bit for each element of the group: 1 for those of the part."""
    bits = {entries: 1 << i for i, entries in enumerate(all_entries(group.orders))}
    return [sum([bits[entries] for entries in part]) for part in some]


def within_masks(masks, mask):
    """The indices of the masks with no bit that the mask does not have."""
    return [i for i, other in enumerate(masks) if other & mask == other]


def greatest_tables(prime, many):
    """The ascending list of the least tables of all greatest parts of a group with so many places.

    One power from corner to corner is p, all others are 1; ahead of p stands any integer below it.
    """
    unit = base_of((1,) * many)
    found = []
    for place in range(many):
        for ahead in all_entries((prime,) * place):
            rows = [(*row[:place], entry, *row[place + 1:]) for row, entry in zip(unit, (*ahead, prime))]
            found.append(tuple(rows) + unit[place + 1:])
    return sorted(found)


def makers_of_base(group, some):
    """For each of the base how often each one of a tuple goes into it; None if the tuple does not make the group."""
    most = power_of(group.prime, group.kind.height)
    graph = graph_table((most,) * len(some), group.orders, some, [])
    rows = [least_source(len(group), graph, base) for base in group.base]
    return tuple(rows) if all([row is not None for row in rows]) else None
