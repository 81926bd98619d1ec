"""Maps as tables, and the numbers of maps by rows of numbers. Nothing is checked here.

The pairs of what an element is led to, taken below 0, and the element make a part of both groups put side by side.
Its least table tells which elements are led where.
"""

from primekinds.group.entries import base_of
from primekinds.group.least import least_table, taken_off
from primekinds.kind.falling import number_at, turned_row
from primekinds.poly.polys import Poly, heights


def graph_table(orders, other_orders, images, rows):
    """The least table of these pairs, together with some elements of the other group beside 0."""
    pairs = [(*[-entry for entry in image], *base) for image, base in zip(images, base_of(orders))]
    beside = [(*row, *[0 for _ in orders]) for row in rows]
    return least_table(other_orders + orders, pairs + beside)


def source_table(orders, other_orders, images, rows):
    """The least table of the part of all elements that are led into what the rows make."""
    ahead = len(other_orders)
    return tuple([row[ahead:] for row in graph_table(orders, other_orders, images, rows)[ahead:]])


def least_source(ahead, graph, entries):
    """The least element that is led to an element, by the table of a map to so many places; None if there is none."""
    left = taken_off(graph, (*entries, *[0 for _ in graph[ahead:]]))[1]
    return None if any(left[:ahead]) else left[ahead:]


def shared_power(row, other):
    """The sum of the products of the turned numbers of two rows: p to this power is the number of all maps."""
    return sum([x * y for x, y in zip(turned_row(row), turned_row(other))])


def undoable_poly(row):
    """The polynomial of the undoable own maps of a group with the numbers `row`."""
    power = shared_power(row, row)
    poly = Poly((1,))
    for index, number in enumerate(row):
        if number != number_at(row, index + 1):
            many = row.count(number)
            power = power - many * (many + 1) // 2
            poly = poly * heights(many)
    return poly.raised(power)
