"""Kinds, and the lists of kinds that belong to a size or to a kind."""

from primekinds.base.wholes import require_index, require_within
from primekinds.errors import InvalidKind, InvalidOperation, ParseError, Refused, TooMany
from primekinds.kind.falling import added_row, break_index, falling_rows, falling_text, is_falling, is_flat_step
from primekinds.kind.falling import is_held, is_line_step, is_topped, joined_row, number_at, opposite_row
from primekinds.kind.falling import read_falling, slant_of, turned_row

MAX_SIZE = 12


class Kind:
    """A kind, told by its numbers."""

    def __init__(self, numbers=()):
        if not is_falling(numbers, MAX_SIZE):
            raise InvalidKind("numbers are a falling tuple of integers from 1 on with a sum of at most 12")
        self._numbers = tuple(numbers)
        # Greater numbers come first within a size: so this pair tells the order of kinds, and the kind, too.
        self._place = (sum(numbers), tuple([-number for number in numbers]))

    @classmethod
    def read(cls, text):
        """The kind with a string."""
        if not isinstance(text, str):
            raise InvalidOperation("a string is needed")
        index = break_index(text, MAX_SIZE)
        if index is not None:
            raise ParseError(index)
        return cls(read_falling(text))

    @property
    def numbers(self):
        """The tuple of the numbers."""
        return self._numbers

    @property
    def size(self):
        """The sum of the numbers."""
        return sum(self._numbers)

    @property
    def rank(self):
        """How many numbers there are."""
        return len(self._numbers)

    @property
    def height(self):
        """The greatest number, or 0."""
        return number_at(self._numbers, 0)

    @property
    def slant(self):
        """The sum of all numbers, each one times its index."""
        return slant_of(self._numbers)

    @property
    def turned(self):
        """The kind that has at each index how many numbers of this one are greater than it."""
        return Kind(turned_row(self._numbers))

    @property
    def repeats(self):
        """The dict from the numbers, ascending, to how often each one stands."""
        return {number: self._numbers.count(number) for number in self._numbers[::-1]}

    @property
    def is_flat(self):
        """Whether all numbers are 1."""
        return self.height <= 1

    @property
    def is_line(self):
        """Whether there is at most one number."""
        return len(self._numbers) <= 1

    def holds(self, other):
        """Whether each number is at least that of the other kind with the same index."""
        require_kind(other)
        return is_held(other.numbers, self._numbers)

    def tops(self, other):
        """Whether the first numbers, however many, add up to at least those of the other kind."""
        require_kind(other)
        if self.size != other.size:
            raise Refused(("size", self.size, other.size))
        return is_topped(other.numbers, self._numbers)

    def __add__(self, other):
        if not isinstance(other, Kind):
            return NotImplemented
        require_size(self.size + other.size)
        return Kind(joined_row(self._numbers, other.numbers))

    def over(self, other):
        """The kind that has at each index the sum of both numbers there."""
        require_kind(other)
        require_size(self.size + other.size)
        return Kind(added_row(self._numbers, other.numbers))

    def opposite(self, wide, high):
        """The kind that this one leaves in a block of `wide` numbers, each of which is `high`."""
        require_within(wide, 0, MAX_SIZE)
        require_within(high, 0, MAX_SIZE)
        if self.rank > wide or self.height > high:
            raise Refused(("outside",))
        require_size(wide * high - self.size)
        return Kind(opposite_row(self._numbers, wide, high))

    def __getitem__(self, index):
        require_index(index)
        return number_at(self._numbers, index)

    def __len__(self):
        return len(self._numbers)

    def __iter__(self):
        return iter(self._numbers)

    def __eq__(self, other):
        return isinstance(other, Kind) and self._place == other._place

    def __lt__(self, other):
        if not isinstance(other, Kind):
            return NotImplemented
        return self._place < other._place

    def __str__(self):
        return str(falling_text(self._numbers))


def require_kind(value):
    """Refuses each value that is no kind."""
    if not isinstance(value, Kind):
        raise InvalidKind("a kind is needed")


def require_size(size):
    """Refuses sizes that no kind has, of kinds that are yet to be made."""
    if size > MAX_SIZE:
        raise TooMany(MAX_SIZE)


def kinds_of(size):
    """The ascending tuple of all kinds of a size."""
    require_within(size, 0, MAX_SIZE)
    return tuple([Kind(row) for row in falling_rows(size, size)])


def kinds_within(kind):
    """The ascending tuple of all kinds that a kind holds."""
    require_kind(kind)
    rows = [row for size in range(kind.size + 1) for row in falling_rows(size, kind.height)]
    return tuple([Kind(row) for row in rows if is_held(row, kind.numbers)])


def rows_over(kind, many):
    """All falling rows with a sum that is greater by so many than the size of a kind, descending."""
    require_kind(kind)
    require_within(many, 0, MAX_SIZE)
    require_size(kind.size + many)
    return falling_rows(kind.size + many, kind.size + many)


def flats_over(kind, many):
    """The ascending tuple of the kinds that come from a kind by a flat step."""
    rows = rows_over(kind, many)
    return tuple([Kind(row) for row in rows if is_flat_step(row, kind.numbers)])


def lines_over(kind, many):
    """The ascending tuple of the kinds that come from a kind by a line step."""
    rows = rows_over(kind, many)
    return tuple([Kind(row) for row in rows if is_line_step(row, kind.numbers)])
