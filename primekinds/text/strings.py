"""Values as strings of items with one blank between two of them, written and read."""

from primekinds.base.wholes import MAX_DIGITS
from primekinds.errors import InvalidGroup, InvalidKind, InvalidMap, InvalidNumber, InvalidOperation, InvalidPart
from primekinds.errors import InvalidPlace, InvalidPoly, InvalidTable, ParseError, Refused, TooMany
from primekinds.group.groups import Group
from primekinds.group.parts import Part
from primekinds.kind.kinds import Kind
from primekinds.maps.maps import GroupMap
from primekinds.poly.polys import Poly
from primekinds.table.places import Place
from primekinds.table.tables import Table

# How many items `/` a string has, by its first word.
MARKS = {"poly": 0, "kind": 0, "group": 0, "part": 1, "map": 2, "table": 0, "place": 0}


def items_of(value):
    """The items of the string of a value; None for a value that has no string."""
    if isinstance(value, Poly):
        return ["poly", *value.factors]
    if isinstance(value, Kind):
        return ["kind", *value.numbers]
    if isinstance(value, Group):
        return ["group", value.prime, *value.kind.numbers]
    if isinstance(value, Part):
        return ["part", value.group.prime, *value.group.kind.numbers, "/", *entries_of(value.table)]
    if isinstance(value, GroupMap):
        numbers, others = value.group.kind.numbers, value.other.kind.numbers
        return ["map", value.group.prime, *numbers, "/", *others, "/", *entries_of(value.images)]
    if isinstance(value, Table):
        return ["table", value.prime, value.exponent, len(value.rows[0]), *entries_of(value.rows)]
    if isinstance(value, Place):
        return ["place", value.coordinates, *entries_of(value.table)]
    return None


def entries_of(rows):
    """The members of all rows, one after the other."""
    return [entry for row in rows for entry in row]


def write_value(value):
    """The string of a value."""
    items = items_of(value)
    if items is None:
        raise InvalidOperation("a value of a class that has strings is needed")
    return " ".join([str(item) for item in items])


def is_number_item(item):
    """Whether the item is an integer of at most sixty digits, written as integers are."""
    digits = item.removeprefix("-")
    if not (digits.isascii() and digits.isdigit()) or len(digits) > MAX_DIGITS:
        return False
    return item == "0" or not digits.startswith("0")


def wrong_index(items):
    """The index of the first item that is not right; None if all are."""
    if items[0] not in MARKS:
        return 0
    marks = MARKS[items[0]]
    for index, item in enumerate(items[1:], start=1):
        if item == "/" and marks > 0:
            marks -= 1
        elif not is_number_item(item):
            return index
    return None


def read_value(string):
    """The value with a string."""
    if not isinstance(string, str):
        raise ParseError(None)
    items = string.split(" ")
    index = wrong_index(items)
    if index is not None:
        raise ParseError(index)
    value = value_of(items[0], runs_of(items[1:]))
    # What can be read in two ways is told by the string that is written.
    if value is None or write_value(value) != string:
        raise ParseError(len(items))
    return value


def runs_of(items):
    """The tuples of the integers ahead of, between and behind the items `/`."""
    runs = [()]
    for item in items:
        if item == "/":
            runs.append(())
        else:
            runs[-1] = (*runs[-1], int(item))
    return runs


def value_of(word, runs):
    """The value of a class that is told by a word and runs of integers; None if there is none."""
    if len(runs) != MARKS[word] + 1:
        return None
    try:
        return made_value(word, runs)
    except (InvalidPoly, InvalidKind, InvalidGroup, InvalidPart, InvalidMap, InvalidTable, InvalidPlace):
        return None
    except (InvalidNumber, TooMany, Refused):
        return None


def made_value(word, runs):
    """The value, as its class makes it; None where the integers are too few or too many for it."""
    if word == "poly":
        return Poly(runs[0])
    if word == "kind":
        return Kind(runs[0])
    if len(runs[0]) == 0:
        return None
    first, numbers = runs[0][0], runs[0][1:]
    if word == "table":
        return table_of(first, numbers)
    if word == "place":
        return Place(first, rows_of(numbers, first, first)) if has_rows(numbers, first, first) else None
    group = Group(first, Kind(numbers))
    if word == "part":
        many = len(group)
        return Part.of_table(group, rows_of(runs[1], many, many)) if has_rows(runs[1], many, many) else None
    if word == "map":
        return map_of(group, Group(first, Kind(runs[1])), runs[2])
    return group


def table_of(prime, numbers):
    """The table with a prime, behind it the exponent, the number of columns, and the entries; None if there is none."""
    if len(numbers) < 2 or numbers[1] < 1:
        return None
    entries, columns = numbers[2:], numbers[1]
    many = len(entries) // columns
    return Table(prime, numbers[0], rows_of(entries, many, columns)) if has_rows(entries, many, columns) else None


def map_of(group, other, entries):
    """The map between two groups with the entries of its images; None if there is none."""
    many, columns = len(group), len(other)
    return GroupMap(group, other, rows_of(entries, many, columns)) if has_rows(entries, many, columns) else None


def has_rows(entries, many, columns):
    """Whether there are just enough entries for so many rows and columns."""
    return len(entries) == many * columns


def rows_of(entries, many, columns):
    """So many rows of entries."""
    return tuple([entries[i * columns:(i + 1) * columns] for i in range(many)])
