"""Fillings of kinds, and their weights."""

from primekinds.base.wholes import is_within
from primekinds.chain.letters import fits_below, is_filled, joined_rows, many_fillings, next_letters, weight_of
from primekinds.chain.letters import without_letter
from primekinds.errors import InvalidFilling, InvalidOperation, Refused, TooMany
from primekinds.kind.falling import is_falling
from primekinds.kind.kinds import MAX_SIZE, require_kind
from primekinds.poly.polys import Poly

MAX_FILLINGS = 2000
MAX_WEIGHED = 8


def require_contents(shape, contents):
    """Refuses what is no kind, and what are no contents."""
    require_kind(shape)
    if not isinstance(contents, tuple) or len(contents) > MAX_SIZE:
        raise InvalidOperation("contents are a tuple of at most 12 integers")
    if not all([is_within(many, 0, MAX_SIZE) for many in contents]):
        raise InvalidOperation("each number of contents is an integer from 0 to 12")


def is_filling(shape, contents, value):
    """Whether the value is a filling of the shape with these contents."""
    require_contents(shape, contents)
    if sum(contents) != shape.size or not is_filled(shape.numbers, value):
        return False
    word = joined_rows(value)
    return all([word.count(letter) == many for letter, many in enumerate(contents, start=1)])


def fillings(shape, contents):
    """All fillings of the shape with these contents, ascending."""
    require_contents(shape, contents)
    many = many_fillings(shape.numbers, contents)
    if many > MAX_FILLINGS:
        raise TooMany(MAX_FILLINGS)
    if many > 0:
        numbers = shape.numbers
        yield from fillings_below(numbers, contents, (), ())


def fillings_below(shape, contents, above, row):
    """All ways to fill a shape, ascending, below a row; a start of the first row is filled already."""
    if len(shape) == 0:
        yield ()
    elif len(row) < shape[0]:
        for letter in next_letters(row, contents, above):
            left, longer = without_letter(contents, letter), (*row, letter)
            yield from fillings_below(shape, left, above, longer)
    elif fits_below(shape[1:], contents, row):
        behind = shape[1:]
        for filling in fillings_below(behind, contents, row, ()):
            yield (row, *filling)


def filling_count(shape, contents):
    """How many fillings of the shape have these contents."""
    require_contents(shape, contents)
    return many_fillings(shape.numbers, contents)


def word_of(filling):
    """The word of a filling: its rows one after the other, the last one first."""
    if not isinstance(filling, tuple) or not all([isinstance(row, tuple) for row in filling]):
        raise InvalidFilling("a filling is a tuple of tuples")
    shape = tuple([len(row) for row in filling])
    if not is_falling(shape, MAX_SIZE) or not is_filled(shape, filling):
        raise InvalidFilling("a filling of a kind is needed")
    word = joined_rows(filling)
    if not all([letter <= MAX_SIZE for letter in word]):
        raise InvalidFilling("a filling has integers from 1 to 12")
    return word


def weight(word):
    """The weight of a word."""
    if not isinstance(word, tuple) or len(word) > MAX_SIZE:
        raise InvalidOperation("a word is a tuple of at most 12 integers")
    if not all([is_within(letter, 1, MAX_SIZE) for letter in word]):
        raise InvalidOperation("a word has integers from 1 to 12")
    for letter in range(1, MAX_SIZE):
        if word.count(letter + 1) > word.count(letter):
            raise Refused(("contents", letter))
    return weight_of(word)


def weight_poly(shape, kind):
    """The sum, over all fillings of the shape with the numbers of the kind, of p to the power of the weight."""
    require_kind(shape)
    require_kind(kind)
    if kind.size > MAX_WEIGHED:
        raise TooMany(MAX_WEIGHED)
    # No weight is greater than the slant of the kind.
    factors = [0] * (kind.slant + 1)
    if shape.size == kind.size:
        numbers, contents = shape.numbers, kind.numbers
        for filling in fillings_below(numbers, contents, (), ()):
            place = weight_of(joined_rows(filling))
            factors[place] = factors[place] + 1
    return Poly(tuple(factors))
