"""Tables of integers modulo powers of primes, and how many leave which kind."""

from primekinds.base.powers import power_of
from primekinds.base.wholes import is_integer, is_prime, require_within
from primekinds.chain.inverse import making_count
from primekinds.count.counts import part_count
from primekinds.errors import InvalidNumber, InvalidTable, Refused, TooMany
from primekinds.kind.kinds import MAX_SIZE, Kind, require_kind
from primekinds.poly.polys import Poly
from primekinds.table.clearing import cleared, plain_rows, product_rows, rows_text, taken_rows

MAX_SIDE = 4
MAX_LEFT = 12


class Table:
    """A table of integers modulo a power of a prime."""

    def __init__(self, prime, many, rows):
        if not is_prime(prime):
            raise InvalidNumber(prime)
        require_within(many, 1, MAX_SIZE)
        require_rows(rows)
        if many * len(rows) > MAX_LEFT or many * len(rows[0]) > MAX_LEFT:
            raise TooMany(MAX_LEFT)
        self._prime = prime
        self._exponent = many
        self._rows = taken_rows(power_of(prime, many), rows)
        self._place = (prime, many, self._rows)

    @property
    def prime(self):
        """The prime."""
        return self._prime

    @property
    def exponent(self):
        """The exponent of the power of the prime."""
        return self._exponent

    @property
    def rows(self):
        """The tuple of the rows."""
        return self._rows

    @property
    def left(self):
        """The kind of what the rows leave of all tuples of entries."""
        powers = cleared(self._prime, self._exponent, self._rows)[0]
        beyond = len(self._rows[0]) - len(powers)
        return Kind((self._exponent,) * beyond + tuple([power for power in powers[::-1] if power > 0]))

    @property
    def is_turning(self):
        """Whether there are as many rows as columns, and p does not divide the determinant."""
        powers = cleared(self._prime, self._exponent, self._rows)[0]
        return len(self._rows) == len(self._rows[0]) and not any(powers)

    def plain(self):
        """The plain table."""
        powers = cleared(self._prime, self._exponent, self._rows)[0]
        return table_like(self, plain_rows(self._prime, powers, len(self._rows), len(self._rows[0])))

    def turnings(self):
        """Two turnings that make the table plain, one from the left and one from the right."""
        _, left, right = cleared(self._prime, self._exponent, self._rows)
        return table_like(self, left), table_like(self, right)

    def __mul__(self, other):
        if not isinstance(other, Table):
            return NotImplemented
        if not is_alike_in(self, other) or len(self._rows[0]) != len(other._rows):
            raise InvalidTable("tables of one prime and one exponent, as many columns as rows, are needed")
        return table_like(self, product_rows(power_of(self._prime, self._exponent), self._rows, other._rows))

    def __invert__(self):
        if not self.is_turning:
            raise Refused(("turning",))
        _, left, right = cleared(self._prime, self._exponent, self._rows)
        # Both together make the table that has 1 from corner to corner.
        return table_like(self, product_rows(power_of(self._prime, self._exponent), right, left))

    def __len__(self):
        return len(self._rows)

    def __iter__(self):
        return iter(self._rows)

    def __eq__(self, other):
        return isinstance(other, Table) and self._place == other._place

    def __str__(self):
        return f"{rows_text(self._rows)} modulo {self._prime}^{self._exponent}"


def require_rows(value):
    """Refuses each value but tuples of one to four tuples of integers, with equal lengths from one to four."""
    if not isinstance(value, tuple) or not 1 <= len(value) <= MAX_SIDE:
        raise InvalidTable("rows are a tuple of one to four tuples")
    if not all([isinstance(row, tuple) and 1 <= len(row) <= MAX_SIDE for row in value]):
        raise InvalidTable("each row is a tuple of one to four integers")
    if not all([len(row) == len(value[0]) for row in value]):
        raise InvalidTable("all rows have equal lengths")
    if not all([is_integer(entry) for row in value for entry in row]):
        raise InvalidTable("each entry is an integer of at most sixty digits")


def table_like(table, rows):
    """The table with other rows, of the same prime and the same exponent."""
    return Table(table.prime, table.exponent, taken_rows(power_of(table.prime, table.exponent), rows))


def is_alike_in(one, other):
    """Whether both tables have one prime and one exponent."""
    return one.prime == other.prime and one.exponent == other.exponent


def require_two(one, other):
    """Refuses what are no two tables of one prime and one exponent, with equally many rows and columns."""
    if not isinstance(one, Table):
        raise InvalidTable("a table is needed")
    if not isinstance(other, Table) or not is_alike_in(one, other):
        raise InvalidTable("a second table of the same prime and the same exponent is needed")
    if len(one.rows) != len(other.rows) or len(one.rows[0]) != len(other.rows[0]):
        raise InvalidTable("a second table with equally many rows and columns is needed")


def alike_paper(one, other):
    """A paper on whether two tables are alike."""
    require_two(one, other)
    if one.left != other.left:
        return ("kinds", one.left, other.left)
    left, right = one.turnings()
    other_left, other_right = other.turnings()
    return ("turned", ~other_left * left, right * ~other_right)


def is_alike_paper(one, other, value):
    """Whether the value is such a paper."""
    require_two(one, other)
    if not isinstance(value, tuple) or len(value) != 3:
        return False
    if value[0] == "kinds":
        return one.left != other.left and value[1] == one.left and value[2] == other.left
    if value[0] != "turned" or not is_turning_of(one, value[1]) or not is_turning_of(one, value[2]):
        return False
    if len(value[1].rows) != len(one.rows) or len(value[2].rows) != len(one.rows[0]):
        return False
    return value[1] * one * value[2] == other


def is_turning_of(table, value):
    """Whether the value is a turning of the prime and the exponent of a table."""
    return isinstance(value, Table) and is_alike_in(table, value) and value.is_turning


def left_count(rows, columns, many, kind):
    """The polynomial of the tables with so many rows and columns that have a left kind."""
    require_within(rows, 1, MAX_SIDE)
    require_within(columns, 1, MAX_SIDE)
    require_within(many, 1, MAX_SIZE)
    require_kind(kind)
    if many * columns > MAX_LEFT:
        raise TooMany(MAX_LEFT)
    if kind.rank > columns or kind.height > many:
        return Poly()
    return part_count(Kind((many,) * columns), kind) * making_count(kind.opposite(columns, many), rows)
