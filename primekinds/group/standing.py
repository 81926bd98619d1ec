"""How high elements stand: rows of heights, told by the numbers of a kind and by the powers in the entries.

The power in an entry is how often the prime divides it, and the number of its place if the entry is 0. Nothing is
checked here.
"""

from primekinds.base.powers import power_in
from primekinds.base.wholes import is_whole
from primekinds.kind.falling import number_at


def powers_in(prime, numbers, entries):
    """The powers in the entries of an element."""
    return tuple([power_in(entry, prime, number) for entry, number in zip(entries, numbers)])


def order_with(numbers, powers):
    """The order number of the elements with these powers."""
    return max([number - power for number, power in zip(numbers, powers)], default=0)


def height_with(numbers, powers, many):
    """The height of p ** many times the elements with these powers; None if this is 0."""
    heights = [power + many for number, power in zip(numbers, powers) if power + many < number]
    return min(heights, default=None)


def height_row_with(numbers, powers):
    """The height row of the elements with these powers."""
    return tuple([height_with(numbers, powers, many) for many in range(order_with(numbers, powers))])


def lower_at(row, other):
    """The least index at which the other height row stands less high than the row; None if it is at least the row."""
    for index, height in enumerate(other):
        if index >= len(row) or height < row[index]:
            return index
    return None


def least_powers(numbers, row):
    """The powers by which the entries of an element must at least be divided so that its row is at least this one.

    Behind the end of the row p ** k times the element is 0, or stands higher than all numbers.
    """
    found = []
    for number in numbers:
        asked = [(number if height > number else height) - index for index, height in enumerate(row)]
        found.append(max([0, number - len(row)] + asked))
    return tuple(found)


def kept_rows_of(numbers):
    """All rows with a number from 0 to that of the kind at the end, and steps from 0 to those of the kind ahead."""
    found = [()]
    below = 0
    for number in numbers[::-1]:
        found = [(number_at(row, 0) + step, *row) for row in found for step in range(number - below + 1)]
        below = number
    return sorted(found)


def is_kept_row(numbers, value):
    """Whether the value is such a row."""
    if not isinstance(value, tuple) or len(value) != len(numbers) or not all([is_whole(power) for power in value]):
        return False
    steps = [power - number_at(value, i + 1) for i, power in enumerate(value)]
    most = [number - number_at(numbers, i + 1) for i, number in enumerate(numbers)]
    return all([0 <= step <= high for step, high in zip(steps, most)])


def is_sharp(numbers, powers, place):
    """Whether, for a kept row, own maps reach the power at a place only from places with the same number.

    If so, undoable own maps lead the element with these powers to none with greater powers at all these places.
    """
    number = numbers[place]
    ways = [power + max(0, number - other) for other, power in zip(numbers, powers) if other != number]
    return powers[place] < number and all([powers[place] < way for way in ways])
