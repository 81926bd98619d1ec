"""Elements as tuples of integers, one for each place, each from 0 on below the order of its place.

But for the functions that judge a value nothing is checked here.
"""

from primekinds.base.wholes import is_whole


def is_entries(orders, value):
    """Whether the value is an element of the group with these orders."""
    if not isinstance(value, tuple) or len(value) != len(orders):
        return False
    return all([is_whole(entry) and 0 <= entry < order for entry, order in zip(value, orders)])


def all_entries(orders):
    """The ascending list of all elements."""
    found = [()]
    for order in orders:
        found = [(*entries, entry) for entries in found for entry in range(order)]
    return found


def taken_in(orders, row):
    """The element that a row of integers tells, each one modulo the order of its place."""
    return tuple([entry % order for entry, order in zip(row, orders)])


def base_of(orders):
    """The elements with 1 at one place and 0 at all others."""
    return tuple([tuple([1 if i == place else 0 for i in range(len(orders))]) for place in range(len(orders))])


def plus_entries(orders, one, other):
    """The sum of two elements."""
    return tuple([(x + y) % order for x, y, order in zip(one, other, orders)])


def times_entries(orders, entries, number):
    """An element added so many times."""
    return tuple([entry * number % order for entry, order in zip(entries, orders)])


def led_entries(orders, images, entries):
    """The sum of the images, each taken as often as the entry at its place says."""
    sums = [0] * len(orders)
    for image, many in zip(images, entries):
        if many != 0:
            sums = [x + many * y for x, y in zip(sums, image)]
    return taken_in(orders, sums)


def are_images(orders, other_orders, value):
    """Whether the value has an element of the other group for each place, which vanishes by the order of this place."""
    if not isinstance(value, tuple) or len(value) != len(orders):
        return False
    if not all([is_entries(other_orders, image) for image in value]):
        return False
    return all([not any(times_entries(other_orders, image, order)) for image, order in zip(value, orders)])
