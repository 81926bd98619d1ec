"""Falling rows: tuples of integers of at least 1, none of which is greater than the one ahead of it.

The class of kinds wraps such rows. But for the first function nothing is
checked here.
"""

from primekinds.base.wholes import is_within


def is_falling(value, most):
    """Whether the value is a falling row with a sum of at most `most`."""
    if not isinstance(value, tuple) or not all([is_within(number, 1, most) for number in value]):
        return False
    return sum(value) <= most and all([value[i] <= value[i - 1] for i in range(1, len(value))])


def falling_rows(total, greatest):
    """All falling rows with a sum and no greater number, in Python's descending order."""
    if total == 0:
        return [()]
    rows = []
    for first in range(greatest, 0, -1):
        if first <= total:
            rows.extend([(first, *row) for row in falling_rows(total - first, first)])
    return rows


def number_at(row, index):
    """The number with an index, 0 behind the last one."""
    return row[index] if index < len(row) else 0


def turned_row(row):
    """The row that has at each index how many numbers are greater than it."""
    return tuple([len([number for number in row if number > i]) for i in range(number_at(row, 0))])


def slant_of(row):
    """The sum of all numbers, each one times its index."""
    return sum([i * number for i, number in enumerate(row)])


def is_held(row, other):
    """Whether the other row has at each index at least the number of the row."""
    return len(row) <= len(other) and all([x <= y for x, y in zip(row, other)])


def is_topped(row, other):
    """Whether the first numbers of the other row, of the same sum, never add up to less than those of the row."""
    return all([sum(row[:i]) <= sum(other[:i]) for i in range(1, len(other))])


def joined_row(one, other):
    """The falling row of the numbers of both."""
    both = one + other
    return tuple([number for number in range(sum(both), 0, -1) for _ in range(both.count(number))])


def added_row(one, other):
    """The row that has at each index the sum of both numbers there."""
    longer = len(one) if len(one) > len(other) else len(other)
    return tuple([number_at(one, i) + number_at(other, i) for i in range(longer)])


def opposite_row(row, wide, high):
    """What the row leaves in a block of so many numbers that are all equal, read from the end."""
    left = [high - number_at(row, wide - 1 - i) for i in range(wide)]
    return tuple([number for number in left if number > 0])


def is_flat_step(row, other):
    """Whether the row holds the other one, and no number of it is greater by more than 1."""
    return is_held(other, row) and all([number - number_at(other, i) <= 1 for i, number in enumerate(row)])


def is_line_step(row, other):
    """Whether the row holds the other one, and none of its numbers is greater than the one ahead of it there."""
    return is_held(other, row) and all([row[i] <= number_at(other, i - 1) for i in range(1, len(row))])


def falling_text(row):
    """The string of the kind with these numbers."""
    words = " ".join([str(number) for number in row])
    return f"[{words}]"


def break_index(text, most):
    """Where a text stops being the start of a string of a kind with a size of at most `most`; None for a whole string.

    The number that is being written can be as great as `limit`, and so much of the size is `left` for it. Each number
    can be followed by one more as long as something is left, so no start leads to nothing.
    """
    if not text.startswith("["):
        return 0
    left, limit, number = most, most, 0
    for index in range(1, len(text)):
        digit = "0123456789".find(text[index])
        if digit >= 0:
            number = 10 * number + digit
            if number == 0 or number > limit:
                return index
        elif text[index] == " " and 0 < number < left:
            left = left - number
            limit = number if number < left else left
            number = 0
        elif text[index] == "]" and (number > 0 or index == 1):
            return index + 1 if index + 1 < len(text) else None
        else:
            return index
    return len(text)


def read_falling(text):
    """The falling row with a string, for the string of a kind."""
    return tuple([int(word) for word in text[1:-1].split()])
