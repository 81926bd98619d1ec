"""Heights of elements in a part, and what makes a part beside it. Nothing is checked here."""

from primekinds.base.powers import power_of
from primekinds.group.entries import all_entries, times_entries
from primekinds.group.least import is_made, joined_table, least_table, left_numbers
from primekinds.group.standing import height_with, order_with, powers_in


def multiple_table(group, table, many):
    """The least table of p ** many times a part."""
    times = power_of(group.prime, many)
    return least_table(group.orders, [times_entries(group.orders, row, times) for row in table])


def is_higher(group, table, element):
    """Whether an element of a part other than 0 stands higher in the group than in the part."""
    numbers = group.kind.numbers
    height = height_with(numbers, powers_in(group.prime, numbers, element), 0)
    return not is_made(multiple_table(group, table, height), element)


def higher_element(group, members, table):
    """An element of a part that stands higher in the group than in the part; None if there is none.

    If there is one, there is one that p leads to 0, too.
    """
    numbers = group.kind.numbers
    tables = [multiple_table(group, table, many) for many in range(group.kind.height)]
    for element in members[1:]:
        if not any(times_entries(group.orders, element, group.prime)):
            height = height_with(numbers, powers_in(group.prime, numbers, element), 0)
            if height > 0 and not is_made(tables[height], element):
                return element
    return None


def beside_makers(group, table):
    """Elements that make a part beside the part with a table, where there is one.

    One by one elements are added whose order number is as great as that of any element modulo what is there, and is
    theirs modulo this, too: so their multiples are not there, and of the rest just one number is used up.
    """
    makers = []
    joined = table
    for number in left_numbers(group.prime, table, group.kind.height):
        maker = fitting_element(group, joined, number)
        makers.append(maker)
        joined = joined_table(group.orders, joined, [maker])
    return tuple(makers)


def fitting_element(group, table, many):
    """The first element with an order number, which is its order number modulo a part, too."""
    numbers = group.kind.numbers
    times = power_of(group.prime, many - 1)
    for element in all_entries(group.orders):
        if order_with(numbers, powers_in(group.prime, numbers, element)) == many:
            if not is_made(table, times_entries(group.orders, element, times)):
                return element
    return group.zero
