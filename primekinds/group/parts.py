"""Parts of groups, and papers about their elements and about parts beside them."""

from primekinds.base.powers import power_of
from primekinds.base.wholes import is_integer
from primekinds.count.counts import all_count
from primekinds.errors import InvalidPart, TooMany
from primekinds.group.besides import beside_makers, higher_element, is_higher
from primekinds.group.entries import led_entries, taken_in
from primekinds.group.groups import require_element, require_group, require_pair
from primekinds.group.least import is_made, joined_table, least_table, left_numbers, no_table, quotients, side_rows
from primekinds.group.least import side_table, table_members, taken_off
from primekinds.group.listing import due_over, tables_due
from primekinds.kind.kinds import Kind

MAX_MAKERS = 16
MAX_PARTS = 3000


class Part:
    """A part of a group, told by its least table."""

    def __init__(self, group, makers):
        require_group(group)
        if not isinstance(makers, tuple) or len(makers) > MAX_MAKERS:
            raise InvalidPart("makers are a tuple of at most 16 members of the group")
        if not all([maker in group for maker in makers]):
            raise InvalidPart("each maker is a member of the group")
        table = least_table(group.orders, makers)
        self._group = group
        self._table = table
        self._members = table_members(group.orders, table)
        self._place = (group.prime, group.kind.numbers, table)

    @classmethod
    def of_table(cls, group, table):
        """The part with a least table."""
        if not is_table(group, table):
            raise InvalidPart("the least table of a part is needed")
        return cls(group, tuple([taken_in(group.orders, row) for row in table]))

    @property
    def group(self):
        """The group."""
        return self._group

    @property
    def table(self):
        """The least table."""
        return self._table

    @property
    def kind(self):
        """The kind of the part as a group."""
        orders = self._group.orders
        return Kind(left_numbers(self._group.prime, quotients(orders, self._table), self._group.kind.height))

    @property
    def rest(self):
        """The kind of what is left of the group modulo the part."""
        return Kind(left_numbers(self._group.prime, self._table, self._group.kind.height))

    @property
    def other_side(self):
        """The part of all elements that are mute to each element of this one."""
        return part_of(self._group, side_table(self._group.orders, self._table))

    def __or__(self, other):
        if not isinstance(other, Part):
            return NotImplemented
        require_same_group(self, other)
        return part_of(self._group, joined_table(self._group.orders, self._table, other._table))

    def __and__(self, other):
        if not isinstance(other, Part):
            return NotImplemented
        require_same_group(self, other)
        orders = self._group.orders
        # What is mute to both other sides is in both parts.
        rows = side_rows(orders, self._table) + side_rows(orders, other._table)
        return part_of(self._group, side_table(orders, least_table(orders, rows)))

    def holds(self, other):
        """Whether all elements of the other part are in this one."""
        require_part(other)
        require_same_group(self, other)
        return all([is_made(self._table, row) for row in other.table])

    def __contains__(self, value):
        return value in self._group and is_made(self._table, value)

    def __len__(self):
        return len(self._members)

    def __iter__(self):
        return iter(self._members)

    def __eq__(self, other):
        return isinstance(other, Part) and self._place == other._place

    def __lt__(self, other):
        if not isinstance(other, Part):
            return NotImplemented
        return self._place < other._place

    def __str__(self):
        return "/".join([" ".join([str(entry) for entry in row]) for row in self._table])


def part_of(group, table):
    """The part with a table that is known to be the least one of a part."""
    part = Part(group, ())
    part._table = table
    part._members = table_members(group.orders, table)
    part._place = (group.prime, group.kind.numbers, table)
    return part


def require_part(value):
    """Refuses each value that is no part."""
    if not isinstance(value, Part):
        raise InvalidPart("a part is needed")


def require_same_group(part, other):
    """Refuses two parts of groups that are not equal."""
    if part.group != other.group:
        raise InvalidPart("a part of an equal group is needed")


def is_table(group, value):
    """Whether the value is the least table of a part of the group."""
    require_group(group)
    if not isinstance(value, tuple) or len(value) != len(group):
        return False
    if not all([is_row(row, len(group)) for row in value]):
        return False
    return least_table(group.orders, value) == value


def is_row(value, many):
    """Whether the value is a tuple of so many integers."""
    return isinstance(value, tuple) and len(value) == many and all([is_integer(entry) for entry in value])


def paired(group, one, other):
    """The pairing of two elements."""
    require_pair(group, one, other)
    return pairing(group, one, other)


def pairing(group, one, other):
    """The pairing of two tuples that are known to be elements."""
    whole = power_of(group.prime, group.kind.height)
    return sum([x * y * (whole // order) for x, y, order in zip(one, other, group.orders)]) % whole


def parts(group):
    """All parts of a group, by their tables, ascending."""
    require_group(group)
    if all_count(group.kind)(group.prime) > MAX_PARTS:
        raise TooMany(MAX_PARTS)
    prime, orders = group.prime, group.orders
    known, due = {}, due_over(no_table(orders))
    for table in tables_due(prime, orders, known, due):
        yield part_of(group, table)


def require_member(part, value):
    """Refuses what is no part, and what is no element of its group."""
    require_part(part)
    require_element(part.group, value)


def member_paper(part, element):
    """A paper on whether an element is in a part."""
    require_member(part, element)
    many, left = taken_off(part.table, element)
    if not any(left):
        return ("sum", many)
    group = part.group
    # Not in the part, the element cannot be mute to all that make the other side.
    some = [row for row in part.other_side if pairing(group, row, element) != 0]
    return ("mute", some[0])


def is_member_paper(part, element, value):
    """Whether the value is such a paper."""
    require_member(part, element)
    if not isinstance(value, tuple) or len(value) != 2:
        return False
    group = part.group
    if value[0] == "sum":
        return is_row(value[1], len(group)) and led_entries(group.orders, part.table, value[1]) == element
    return value[0] == "mute" and value[1] in group and tells_apart(part, element, value[1])


def tells_apart(part, element, other):
    """Whether the other element is mute to all of a part, and not to the element."""
    group = part.group
    if any([pairing(group, row, other) for row in part.table]):
        return False
    return pairing(group, element, other) != 0


def beside_paper(part):
    """A paper on whether some part is beside a part."""
    require_part(part)
    group = part.group
    higher = higher_element(group, list(part), part.table)
    if higher is not None:
        return ("higher", higher)
    return ("beside", Part(group, beside_makers(group, part.table)))


def is_beside_paper(part, value):
    """Whether the value is such a paper."""
    require_part(part)
    if not isinstance(value, tuple) or len(value) != 2:
        return False
    if value[0] == "beside":
        return isinstance(value[1], Part) and is_beside(part, value[1])
    if value[0] != "higher" or value[1] not in part or value[1] == part.group.zero:
        return False
    return is_higher(part.group, part.table, value[1])


def is_beside(part, other):
    """Whether the other part is beside the part, with an equal group."""
    if part.group != other.group or len(part) * len(other) != part.group.size:
        return False
    return len(set(list(part)) & set(list(other))) == 1
