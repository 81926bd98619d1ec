"""Groups, their elements, and how high these stand."""

from primekinds.base.powers import inverse_in, power_of
from primekinds.base.wholes import is_integer, is_within, require_within
from primekinds.errors import InvalidElement, InvalidGroup, InvalidNumber, InvalidOperation, TooMany
from primekinds.group.entries import all_entries, are_images, base_of, is_entries, led_entries, plus_entries
from primekinds.group.entries import times_entries
from primekinds.group.standing import height_row_with, height_with, is_sharp, kept_rows_of, least_powers, lower_at
from primekinds.group.standing import order_with, powers_in
from primekinds.kind.kinds import MAX_SIZE, require_kind
from primekinds.poly.polys import Poly

GROUP_PRIMES = (2, 3, 5, 7)
MAX_ELEMENTS = 256


class Group:
    """The group of a kind at a prime."""

    def __init__(self, prime, kind):
        require_group_prime(prime)
        require_kind(kind)
        if power_of(prime, kind.size) > MAX_ELEMENTS:
            raise TooMany(MAX_ELEMENTS)
        self._prime = prime
        self._kind = kind
        self._orders = tuple([power_of(prime, number) for number in kind.numbers])
        self._place = (prime, kind.numbers)

    @property
    def prime(self):
        """The prime."""
        return self._prime

    @property
    def kind(self):
        """The kind."""
        return self._kind

    @property
    def size(self):
        """The number of elements."""
        return power_of(self._prime, self._kind.size)

    @property
    def zero(self):
        """The element 0."""
        return (0,) * len(self._orders)

    @property
    def base(self):
        """The elements with 1 at one place and 0 at all others."""
        return base_of(self._orders)

    @property
    def orders(self):
        """How many integers each place has."""
        return self._orders

    def members(self):
        """All elements, ascending."""
        yield from all_entries(self._orders)

    def plus(self, element, other):
        """The sum of two elements."""
        require_element(self, element)
        require_element(self, other)
        return plus_entries(self._orders, element, other)

    def times(self, element, number):
        """The element added so many times."""
        require_element(self, element)
        if not is_integer(number):
            raise InvalidNumber(number)
        return times_entries(self._orders, element, number)

    def order_of(self, element):
        """The least k for which p ** k times the element is 0."""
        return order_with(self._kind.numbers, checked_powers(self, element))

    def height_of(self, element):
        """The greatest h such that p ** h times some element is this one; None for 0."""
        return height_with(self._kind.numbers, checked_powers(self, element), 0)

    def height_row_of(self, element):
        """The heights of the element, p times it, and so on, as long as these are not 0."""
        return height_row_with(self._kind.numbers, checked_powers(self, element))

    def __contains__(self, value):
        return is_entries(self._orders, value)

    def __eq__(self, other):
        return isinstance(other, Group) and self._place == other._place

    def __len__(self):
        return len(self._orders)

    def __str__(self):
        return f"group of {self._kind} at {self._prime}"


def require_group_prime(value):
    """Refuses each value but the primes at which groups are made."""
    if not is_integer(value) or value not in GROUP_PRIMES:
        raise InvalidNumber(value)


def require_group(value):
    """Refuses each value that is no group."""
    if not isinstance(value, Group):
        raise InvalidGroup("a group is needed")


def require_element(group, value):
    """Refuses each value that is no element of the group."""
    if value not in group:
        raise InvalidElement("an element of the group is needed")


def checked_powers(group, element):
    """The powers in the entries of an element; refuses each value that is none."""
    require_element(group, element)
    return powers_in(group.prime, group.kind.numbers, element)


def require_pair(group, one, other):
    """Refuses what is no group, and two values that are not both elements of it."""
    require_group(group)
    require_element(group, one)
    require_element(group, other)


def height_rows(kind):
    """The ascending tuple of the height rows of all elements."""
    require_kind(kind)
    # The elements with just the powers of a kept row stand for all elements that own maps lead to each other.
    return tuple(sorted([height_row_with(kind.numbers, powers) for powers in kept_rows_of(kind.numbers)]))


def require_row(value):
    """Refuses each value but ascending tuples of at most 12 integers from 0 to 11."""
    if not isinstance(value, tuple) or len(value) > MAX_SIZE:
        raise InvalidOperation("a row is a tuple of at most 12 integers")
    if not all([is_within(height, 0, MAX_SIZE - 1) for height in value]):
        raise InvalidOperation("each height is an integer from 0 to 11")
    if not all([value[i - 1] < value[i] for i in range(1, len(value))]):
        raise InvalidOperation("heights ascend")


def power_poly(many):
    """The polynomial p ** many."""
    return Poly((1,)).raised(many)


def count_at_least(kind, row):
    """The polynomial of the elements with a height row that is at least this one."""
    require_kind(kind)
    require_row(row)
    return power_poly(kind.size - sum(least_powers(kind.numbers, row)))


def count_with(kind, row):
    """The polynomial of the elements with just this height row."""
    require_kind(kind)
    require_row(row)
    numbers = kind.numbers
    powers = least_powers(numbers, row)
    if height_row_with(numbers, powers) != row:
        return Poly()
    poly = Poly((1,))
    for number, many in kind.repeats.items():
        place = numbers.index(number)
        left = number - powers[place]
        block = power_poly(left * many)
        if is_sharp(numbers, powers, place):
            block = block - power_poly((left - 1) * many)
        poly = poly * block
    return poly


def order_count(kind, many):
    """The polynomial of the elements that p ** many leads to 0."""
    require_kind(kind)
    require_within(many, 0, MAX_SIZE)
    return power_poly(sum([many if number > many else number for number in kind.numbers]))


def images_between(group, one, other):
    """The images of the base under an own map that leads one element to another one, where there is such a map.

    For each place the entry of the other element is made of just one entry of the first one: of that from which own
    maps reach the least power there.
    """
    numbers, prime = group.kind.numbers, group.prime
    powers = powers_in(prime, numbers, one)
    picks = []
    for j, entry in enumerate(other):
        ways = [(powers[i] + max(0, numbers[j] - number), i) for i, number in enumerate(numbers)]
        place = min(ways)[1]
        part = power_of(prime, powers[place])
        factor = entry // part * inverse_in(one[place] // part, group.orders[j]) if entry != 0 else 0
        picks.append((place, factor % group.orders[j]))
    return tuple([tuple([factor if place == i else 0 for place, factor in picks]) for i in range(len(numbers))])


def lower_height_at(group, one, other):
    """The least k for which p ** k times the second element stands less high than p ** k times the first; or None."""
    return lower_at(group.height_row_of(one), group.height_row_of(other))


def leading(group, one, other):
    """A paper on whether an own map leads the first element to the second one."""
    require_pair(group, one, other)
    index = lower_height_at(group, one, other)
    if index is not None:
        return ("height", index)
    return ("images", images_between(group, one, other))


def is_leading(group, one, other, value):
    """Whether the value is such a paper."""
    require_pair(group, one, other)
    if not isinstance(value, tuple) or len(value) != 2:
        return False
    if value[0] == "images":
        orders = group.orders
        return are_images(orders, orders, value[1]) and led_entries(orders, value[1], one) == other
    return value[0] == "height" and is_lower_at(group.height_row_of(one), group.height_row_of(other), value[1])


def is_lower_at(row, other, index):
    """Whether the value is an index at which the other row stands less high than the row."""
    if not is_integer(index) or not 0 <= index < len(other):
        return False
    return index >= len(row) or other[index] < row[index]
