"""Maps between groups, and how many there are."""

from primekinds.base.powers import power_of
from primekinds.base.wholes import is_integer, is_within
from primekinds.count.counts import row_part_poly
from primekinds.errors import InvalidGroup, InvalidMap, InvalidOperation, InvalidPart, Refused, TooMany
from primekinds.group.entries import all_entries, are_images, base_of, led_entries, plus_entries, times_entries
from primekinds.group.groups import power_poly, require_element, require_group
from primekinds.group.least import least_table, no_table, table_members
from primekinds.group.parts import part_of, require_part
from primekinds.kind.falling import number_at, turned_row
from primekinds.kind.kinds import MAX_SIZE, Kind, kinds_within, require_kind
from primekinds.maps.graphs import graph_table, least_source, shared_power, source_table, undoable_poly

MAX_MAPS = 5000


def map_count(one, other):
    """The polynomial of all maps from the group of one kind to that of the other."""
    require_kind(one)
    require_kind(other)
    return power_poly(shared_power(one.numbers, other.numbers))


def one_to_one_count(one, other):
    """The polynomial of the one-to-one maps."""
    require_kind(one)
    require_kind(other)
    return row_part_poly(other.numbers, one.numbers) * undoable_poly(one.numbers)


def onto_count(one, other):
    """The polynomial of the onto maps."""
    require_kind(one)
    require_kind(other)
    # There are as many parts with a rest as parts of this kind.
    return row_part_poly(one.numbers, other.numbers) * undoable_poly(other.numbers)


def undoable_count(kind):
    """The polynomial of the undoable maps of a group to itself."""
    require_kind(kind)
    return undoable_poly(kind.numbers)


def image_counts(one, other):
    """The dict from the numbers of the kinds of images to the polynomials of the maps with such an image."""
    require_kind(one)
    require_kind(other)
    rows = sorted([kind.numbers for kind in kinds_within(one) if other.holds(kind)])
    return {
        row: row_part_poly(one.numbers, row) * undoable_poly(row) * row_part_poly(other.numbers, row) for row in rows
    }


def kind_of_maps(exponents):
    """The kind for whose group there are p ** e maps from the groups of the lines 1, 2, .., with these integers e."""
    if not isinstance(exponents, tuple) or len(exponents) > MAX_SIZE:
        raise InvalidOperation("exponents are a tuple of at most 12 integers")
    if not all([is_within(exponent, 0, MAX_SIZE) for exponent in exponents]):
        raise InvalidOperation("each exponent is an integer from 0 to 12")
    steps = [exponent - (exponents[k - 1] if k > 0 else 0) for k, exponent in enumerate(exponents)]
    if not all([0 <= number_at(steps, k + 1) <= step for k, step in enumerate(steps)]):
        return None
    return Kind(turned_row(tuple([step for step in steps if step > 0])))


class GroupMap:
    """A map from a group to another one, told by the images of the base."""

    def __init__(self, group, other, images):
        require_groups(group, other)
        if not are_images(group.orders, other.orders, images):
            raise InvalidMap("each image must vanish by the order of its place")
        self._group = group
        self._other = other
        self._images = images
        self._place = (group.prime, group.kind.numbers, other.kind.numbers, images)

    @classmethod
    def itself(cls, group):
        """The map that leads each element to itself."""
        require_group(group)
        return cls(group, group, group.base)

    @property
    def group(self):
        """The group whose elements are led."""
        return self._group

    @property
    def other(self):
        """The group to which they are led."""
        return self._other

    @property
    def images(self):
        """The elements to which the base is led."""
        return self._images

    @property
    def image(self):
        """The part of all elements to which elements are led."""
        return part_of(self._other, least_table(self._other.orders, self._images))

    @property
    def kernel(self):
        """The part of all elements that are led to 0."""
        return part_of(self._group, source_table(self._group.orders, self._other.orders, self._images, []))

    def __call__(self, element):
        require_element(self._group, element)
        return led_entries(self._other.orders, self._images, element)

    def source(self, element):
        """The least element that is led to an element; None if there is none."""
        require_element(self._other, element)
        graph = graph_table(self._group.orders, self._other.orders, self._images, [])
        return least_source(len(self._other), graph, element)

    def forth(self, part):
        """The part of all elements to which the elements of a part are led."""
        require_part_of(self._group, part)
        orders = self._other.orders
        return part_of(self._other, least_table(orders, [led_entries(orders, self._images, row) for row in part.table]))

    def backward(self, part):
        """The part of all elements that are led into a part."""
        require_part_of(self._other, part)
        return part_of(self._group, source_table(self._group.orders, self._other.orders, self._images, part.table))

    def is_one_to_one(self):
        """Whether unlike elements are led to unlike elements."""
        orders = self._group.orders
        return source_table(orders, self._other.orders, self._images, []) == no_table(orders)

    def is_onto(self):
        """Whether the image is the whole other group."""
        return least_table(self._other.orders, self._images) == base_of(self._other.orders)

    def is_undoable(self):
        """Whether the map is one to one and onto."""
        return self.is_one_to_one() and self.is_onto()

    def __mul__(self, other):
        if not isinstance(other, GroupMap):
            return NotImplemented
        if other.other != self._group:
            raise InvalidMap("the second map must lead to the group of the first one")
        orders = self._other.orders
        images = tuple([led_entries(orders, self._images, image) for image in other.images])
        return GroupMap(other.group, self._other, images)

    def __add__(self, other):
        if not isinstance(other, GroupMap):
            return NotImplemented
        if self._group != other.group or self._other != other.other:
            raise InvalidMap("both maps must lead from one group to one group")
        orders = self._other.orders
        images = tuple([plus_entries(orders, one, two) for one, two in zip(self._images, other.images)])
        return GroupMap(self._group, self._other, images)

    def __neg__(self):
        orders = self._other.orders
        return GroupMap(self._group, self._other, tuple([times_entries(orders, image, -1) for image in self._images]))

    def __invert__(self):
        require_undoable(self)
        graph = graph_table(self._group.orders, self._other.orders, self._images, [])
        return GroupMap(
            self._other, self._group, tuple([least_source(len(self._other), graph, base) for base in self._other.base])
        )

    def __eq__(self, other):
        return isinstance(other, GroupMap) and self._place == other._place

    def __str__(self):
        return f"map of {self._group.kind} to {self._other.kind} at {self._group.prime}"


def require_groups(group, other):
    """Refuses two values that are not both groups with one prime."""
    require_group(group)
    require_group(other)
    if group.prime != other.prime:
        raise InvalidGroup("both groups must have one prime")


def require_part_of(group, value):
    """Refuses each value that is no part of an equal group."""
    require_part(value)
    if value.group != group:
        raise InvalidPart("a part of the group is needed")


def require_undoable(lead):
    """Refuses maps that are not undoable, with an element that shows it."""
    orders, other_orders = lead.group.orders, lead.other.orders
    kernel = source_table(orders, other_orders, lead.images, [])
    if kernel != no_table(orders):
        # The elements of a part ascend, and 0 is the first one.
        raise Refused(("kernel", table_members(orders, kernel)[1]))
    image = least_table(other_orders, lead.images)
    if image != base_of(other_orders):
        members = table_members(other_orders, image)
        raise Refused(("outside", [entries for entries in all_entries(other_orders) if entries not in members][0]))


def is_images(group, other, value):
    """Whether the value is the images of a map."""
    require_groups(group, other)
    return are_images(group.orders, other.orders, value)


def maps(group, other):
    """All maps from a group to another one, ascending by their images."""
    require_groups(group, other)
    if map_count(group.kind, other.kind)(group.prime) > MAX_MAPS:
        raise TooMany(MAX_MAPS)
    found = [()]
    for order in group.orders:
        ends = [image for image in all_entries(other.orders) if not any(times_entries(other.orders, image, order))]
        found = [(*images, image) for images in found for image in ends]
    for images in found:
        yield GroupMap(group, other, images)


def into_paper(group, other):
    """A paper on whether there is a one-to-one map from a group to another one."""
    require_groups(group, other)
    numbers, other_numbers = group.kind.numbers, other.kind.numbers
    for index, number in enumerate(turned_row(numbers)):
        if number > number_at(turned_row(other_numbers), index):
            return ("rank", index)
    # Each number is at most the other one there, so its place goes into this place.
    lifts = [power_of(group.prime, most - number) for number, most in zip(numbers, other_numbers)]
    return ("into", tuple([times_entries(other.orders, base, lift) for base, lift in zip(other.base, lifts)]))


def is_into_paper(group, other, value):
    """Whether the value is such a paper."""
    require_groups(group, other)
    if not isinstance(value, tuple) or len(value) != 2:
        return False
    if value[0] == "into":
        orders, images = group.orders, value[1]
        if not are_images(orders, other.orders, images):
            return False
        return source_table(orders, other.orders, images, []) == no_table(orders)
    if value[0] != "rank" or not is_integer(value[1]) or value[1] < 0:
        return False
    return number_at(turned_row(group.kind.numbers), value[1]) > number_at(turned_row(other.kind.numbers), value[1])
