"""Powers of integers, how often a prime divides, and inverses modulo an integer. Nothing is checked here."""


def power_of(number, many):
    """The product of so many factors, each of which is the number."""
    value = 1
    for _ in range(many):
        value = value * number
    return value


def power_in(number, prime, most):
    """How often the prime divides the number, but at most so often, as for 0."""
    many = 0
    left = number
    while many < most and left % prime == 0:
        left = left // prime
        many += 1
    return many


def inverse_in(unit, modulus):
    """The integer from 0 on below the modulus whose product with the unit leaves 1."""
    factor, next_factor = 1, 0
    left, next_left = unit % modulus, modulus
    # Each factor times the unit leaves what is left beside it.
    while next_left > 0:
        times = left // next_left
        factor, next_factor = next_factor, factor - times * next_factor
        left, next_left = next_left, left - times * next_left
    return factor % modulus
