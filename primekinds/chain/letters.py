"""Fillings by rows of numbers, how many there are, and the weights of words. Nothing is checked here.

Contents are rows of integers from 0 on: how often the letters 1, 2, .. stand, or are still to be put.
"""

from primekinds.base.wholes import is_whole
from primekinds.kind.falling import is_topped, number_at


def falling_part(contents):
    """The contents in falling order, without zeros."""
    return tuple([many for many in sorted(contents, reverse=True) if many > 0])


def line_rows(row, many, shape):
    """All falling rows within a shape that come from a row by a line step of so many."""
    found = [()]
    for i, most in enumerate(shape):
        low = number_at(row, i)
        high = most if i == 0 else min(most, number_at(row, i - 1))
        found = [(*made, number) for made in found for number in range(low, high + 1)]
    total = sum(row) + many
    return [tuple([number for number in made if number > 0]) for made in found if sum(made) == total]


def many_fillings(shape, contents):
    """How many fillings of a shape have some contents; each letter is a line step."""
    ways = {(): 1}
    for many in contents:
        longer = {}
        for row, times in ways.items():
            for over in line_rows(row, many, shape):
                longer[over] = longer.get(over, 0) + times
        ways = longer
    return ways.get(shape, 0)


def fits_below(shape, contents, above):
    """Whether letters can perhaps be put into a shape below a row; if not, there is no filling.

    In the row i of the shape a letter can only stand below letters that are less by more than i.
    """
    if not is_topped(falling_part(contents), shape):
        return False
    # How many letters of the row above are at most 0, 1, 2, ..
    ends = [len([one for one in above if one <= letter]) for letter in range(len(contents))]
    letters = 0
    for letter, many in enumerate(contents, start=1):
        letters = letters + many
        if letters > sum([min(number, end) for number, end in zip(shape, ends[:letter][::-1])]):
            return False
    return True


def next_letters(row, contents, above):
    """The letters that can stand next in a row, ascending."""
    low = row[-1] if len(row) > 0 else 1
    if len(above) > 0:
        low = max(low, above[len(row)] + 1)
    return [letter for letter in range(low, len(contents) + 1) if contents[letter - 1] > 0]


def without_letter(contents, letter):
    """The contents with one letter less."""
    return (*contents[:letter - 1], contents[letter - 1] - 1, *contents[letter:])


def is_filled(shape, value):
    """Whether the value has rows of integers from 1 on as a filling of the shape has."""
    if not isinstance(value, tuple) or len(value) != len(shape):
        return False
    if not all([is_letter_row(row, number) for row, number in zip(value, shape)]):
        return False
    return all([
        lower > upper for i, row in enumerate(value) if i > 0 for lower, upper in zip(row, value[i - 1])
    ])


def is_letter_row(value, length):
    """Whether the value is a row of so many integers from 1 on, none of which is less than the one ahead of it."""
    if not isinstance(value, tuple) or len(value) != length:
        return False
    if not all([is_whole(letter) and letter >= 1 for letter in value]):
        return False
    return all([value[i] >= value[i - 1] for i in range(1, length)])


def joined_rows(filling):
    """The word of a filling."""
    return tuple([letter for row in filling[::-1] for letter in row])


def next_place(some, place):
    """Of ascending places the last one ahead of a place, and whether there is one; if not, the last one of all."""
    ahead = [other for other in some if other < place]
    return (ahead[-1], True) if len(ahead) > 0 else (some[-1], False)


def weight_of(word):
    """The weight of a word that has no letter more often than the one ahead of it."""
    left = {letter: [i for i, one in enumerate(word) if one == letter] for letter in word}
    total = 0
    for start in left.get(1, [])[::-1]:
        place, index, letter = start, 0, 2
        while len(left.get(letter, [])) > 0:
            place, is_ahead = next_place(left[letter], place)
            left[letter].remove(place)
            index = index if is_ahead else index + 1
            total = total + index
            letter += 1
    return total
