"""The errors of this package.

Those that keep a value do so under the name that the document gives it. They
leave Python's own `args` alone, so that each shows itself as it was raised.
"""


class KindsError(ValueError):
    """The base of the errors about arguments that are not what they must be."""


class InvalidPoly(KindsError):
    """For what is no polynomial, or no factors of one."""


class InvalidKind(KindsError):
    """For what is no kind, or no numbers of one."""


class InvalidGroup(KindsError):
    """For what is no group, or not the group that is needed."""


class InvalidElement(KindsError):
    """For what is no element of the group."""


class InvalidPart(KindsError):
    """For what is no part of the group."""


class InvalidMap(KindsError):
    """For what is no map between the groups."""


class InvalidFilling(KindsError):
    """For what is no filling of a kind."""


class InvalidTable(KindsError):
    """For what is no table of the form that is needed."""


class InvalidPlace(KindsError):
    """For what is no place, or no points of one."""


class InvalidOperation(KindsError):
    """For all other arguments that do not have the form that is needed."""


class ParseError(KindsError):
    """For a string that tells no value; it keeps where the string goes wrong."""

    def __init__(self, index):
        self.index = index


class InvalidNumber(IndexError):
    """For what is no integer between the bounds that are told."""

    def __init__(self, value):
        self.value = value


class UnknownName(KeyError):
    """For a name under which nothing is kept."""

    def __init__(self, name):
        self.name = name


class TooMany(OverflowError):
    """For what would be greater than a limit of this package."""

    def __init__(self, limit):
        self.limit = limit


class Refused(ArithmeticError):
    """For what cannot be done; the reason is a tuple that begins with a word."""

    def __init__(self, reason):
        self.reason = reason


class NothingToUndo(LookupError):
    """For more deeds to take back, or to do again, than there are."""

    def __init__(self, many):
        self.many = many
