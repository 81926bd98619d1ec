"""Places of points of integers, and how many there are."""

from primekinds.base.powers import power_in
from primekinds.base.wholes import is_integer, is_prime, is_whole, require_within
from primekinds.count.counts import row_part_poly
from primekinds.errors import InvalidNumber, InvalidPlace, Refused, TooMany
from primekinds.group.least import is_made, left_numbers
from primekinds.kind.kinds import MAX_SIZE, Kind, require_kind
from primekinds.poly.polys import binomial
from primekinds.table.clearing import rows_text, unit_rows
from primekinds.table.points import met_rows, rows_of_points, tables_split

MAX_COORDINATES = 4
MAX_POINTS = 12
MAX_INDEX = 10 ** 6
MAX_PLACES = 3000


class Place:
    """A place, told by its least table."""

    def __init__(self, coordinates, points):
        require_within(coordinates, 1, MAX_COORDINATES)
        require_points(coordinates, points)
        table = rows_of_points(coordinates, points)
        if not all([row[i] > 0 for i, row in enumerate(table)]):
            raise Refused(("thin",))
        self._table = table

    @property
    def coordinates(self):
        """The number of the coordinates."""
        return len(self._table)

    @property
    def table(self):
        """The least table."""
        return self._table

    @property
    def class_count(self):
        """The index."""
        value = 1
        for i, row in enumerate(self._table):
            value = value * row[i]
        return value

    def kind_at(self, prime):
        """The kind of the classes that are 0 when they are taken some power of the prime times."""
        if not is_prime(prime):
            raise InvalidNumber(prime)
        index = self.class_count
        size = power_in(index, prime, index.bit_length())
        if size > MAX_SIZE:
            raise TooMany(MAX_SIZE)
        return Kind(left_numbers(prime, self._table, size))

    def __or__(self, other):
        if not isinstance(other, Place):
            return NotImplemented
        require_alike(self, other)
        return place_of(rows_of_points(len(self._table), self._table + other._table))

    def __and__(self, other):
        if not isinstance(other, Place):
            return NotImplemented
        require_alike(self, other)
        return place_of(met_rows(self._table, other._table))

    def holds(self, other):
        """Whether all points of the other place are in this one."""
        if not isinstance(other, Place):
            raise InvalidPlace("a place is needed")
        require_alike(self, other)
        return all([is_made(self._table, row) for row in other.table])

    def __contains__(self, value):
        return is_point(len(self._table), value) and is_made(self._table, value)

    def __eq__(self, other):
        return isinstance(other, Place) and self._table == other._table

    def __len__(self):
        return len(self._table)

    def __iter__(self):
        return iter(self._table)

    def __str__(self):
        return f"place of {rows_text(self._table)}"


def place_of(table):
    """The place with a table that is known to be the least one of a place; its integers can be of any length."""
    place = Place(len(table), unit_rows(len(table)))
    place._table = table
    return place


def is_point(many, value):
    """Whether the value is a point of so many coordinates, of integers of any length."""
    return isinstance(value, tuple) and len(value) == many and all([is_whole(entry) for entry in value])


def require_points(many, value):
    """Refuses each value but tuples of at most twelve points of so many coordinates."""
    if not isinstance(value, tuple) or len(value) > MAX_POINTS:
        raise InvalidPlace("points are a tuple of at most twelve")
    if not all([is_point(many, point) and all([is_integer(entry) for entry in point]) for point in value]):
        raise InvalidPlace("each point is a tuple of integers of at most sixty digits, one for each coordinate")


def require_alike(place, other):
    """Refuses two places whose coordinates are not equally many."""
    if len(place) != len(other):
        raise InvalidPlace("a place with equally many coordinates is needed")


def require_index_of(coordinates, index):
    """Refuses wrong numbers of coordinates, and indices that are too great."""
    require_within(coordinates, 1, MAX_COORDINATES)
    require_within(index, 1, MAX_INDEX)


def places(coordinates, index):
    """All places of an index, by their least tables, ascending."""
    require_index_of(coordinates, index)
    if index_count(coordinates, index) > MAX_PLACES:
        raise TooMany(MAX_PLACES)
    least = (1,) * coordinates
    for table in tables_split(index, least):
        yield place_of(table)


def prime_powers(number):
    """The dict from the prime numbers that divide an integer from 1 on to how often they do."""
    found = {}
    left, factor = number, 2
    while factor * factor <= left:
        while left % factor == 0:
            found[factor] = found.get(factor, 0) + 1
            left = left // factor
        factor += 1
    if left > 1:
        found[left] = found.get(left, 0) + 1
    return found


def index_count(coordinates, index):
    """How many places have an index."""
    require_index_of(coordinates, index)
    value = 1
    # For factors without a common divisor the numbers of places are multiplied.
    for prime, many in prime_powers(index).items():
        value = value * binomial(coordinates + many - 1, many)(prime)
    return value


def index_poly(coordinates, many):
    """The polynomial of the places with the index p ** many."""
    require_within(coordinates, 1, MAX_COORDINATES)
    require_within(many, 0, MAX_SIZE)
    return binomial(coordinates + many - 1, many)


def place_count(coordinates, kind):
    """The polynomial of the places with a kind at p whose index is p to the power of its size."""
    require_within(coordinates, 1, MAX_COORDINATES)
    require_kind(kind)
    return row_part_poly((kind.height,) * coordinates, kind.numbers)
