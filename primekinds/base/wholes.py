"""Integers as they may be passed, and the primes."""

from primekinds.errors import InvalidNumber

PRIMES = (2, 3, 5, 7, 11, 13, 17, 19, 23, 29, 31, 37, 41, 43, 47, 53, 59, 61, 67, 71, 73, 79, 83, 89, 97)

MAX_DIGITS = 60

# The least integer with more digits than may be passed.
BOUND = 10 ** 60


def is_whole(value):
    """Whether the value is an integer of any length; to Python alone, True and False would be, too."""
    return isinstance(value, int) and not isinstance(value, bool)


def is_integer(value):
    """Whether the value is an integer of at most sixty digits."""
    return is_whole(value) and -BOUND < value < BOUND


def is_prime(value):
    """Whether the value is one of the primes of this package."""
    return is_integer(value) and value in PRIMES


def is_within(value, low, high):
    """Whether the value is an integer from the low bound to the high one."""
    return is_integer(value) and low <= value <= high


def require_within(value, low, high):
    """Refuses each value but the integers from the low bound to the high one."""
    if not is_within(value, low, high):
        raise InvalidNumber(value)


def require_index(value):
    """Refuses each value but the integers from 0 on."""
    if not is_integer(value) or value < 0:
        raise InvalidNumber(value)
