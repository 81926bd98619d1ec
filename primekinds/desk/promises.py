"""Promises about the parts of names: their forms, and whether they are true."""

from primekinds.desk.following import is_name
from primekinds.group.parts import is_beside
from primekinds.kind.falling import is_falling
from primekinds.kind.kinds import MAX_SIZE
from primekinds.maps.kept import is_kept

PAIRED = ("same", "within", "beside")
NUMBERED = ("kind", "rest")


def is_promise(group, value):
    """Whether the value has a form of promises about parts of a group."""
    if not isinstance(value, tuple) or len(value) < 2 or not is_name(value[1]):
        return False
    if len(value) == 2:
        return value[0] == "kept"
    if len(value) != 3:
        return False
    if value[0] in PAIRED:
        return is_name(value[2])
    if value[0] in NUMBERED:
        return is_falling(value[2], MAX_SIZE)
    return value[0] == "has" and value[2] in group


def names_in(promise):
    """The names that a promise is about."""
    return promise[1:] if promise[0] in PAIRED else promise[1:2]


def is_true(parts_kept, promise):
    """Whether all names of a promise are kept, and what it tells holds."""
    if not all([name in parts_kept for name in names_in(promise)]):
        return False
    word, part = promise[0], parts_kept[promise[1]]
    if word in PAIRED:
        return is_true_of(word, part, parts_kept[promise[2]])
    if word == "kept":
        return is_kept(part)
    if word == "has":
        return promise[2] in part
    return (part.kind if word == "kind" else part.rest).numbers == promise[2]


def is_true_of(word, part, other):
    """Whether a promise about two parts holds."""
    if word == "same":
        return part == other
    return other.holds(part) if word == "within" else is_beside(part, other)


def broken_labels(parts_kept, promises):
    """The ascending tuple of the labels of all promises that are not true."""
    return tuple([label for label in sorted(promises) if not is_true(parts_kept, promises[label])])
