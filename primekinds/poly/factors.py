"""Rows of factors: lists or tuples of integers, that of p ** 0 first.

Nothing is checked here, the integers can have any length, and zeros can stand
at the end of a row until it is trimmed.
"""

from primekinds.base.wholes import MAX_DIGITS


def trimmed(row):
    """The row as a tuple without the zeros at its end."""
    end = len(row)
    while end > 0 and row[end - 1] == 0:
        end -= 1
    return tuple(row[:end])


def added(one, other):
    """The sum of two rows."""
    if len(one) < len(other):
        one, other = other, one
    return [x + y for x, y in zip(one, other)] + list(one[len(other):])


def negated(row):
    """The row with opposite signs."""
    return [-factor for factor in row]


def multiplied(one, other):
    """The product of two rows."""
    row = [0] * (len(one) + len(other))
    for i, x in enumerate(one):
        # Many polynomials of this package have few factors other than 0.
        if x != 0:
            for j, y in enumerate(other):
                row[i + j] = row[i + j] + x * y
    return row


def long_division(row, other):
    """The quotient and what is left, for a row and one whose last factor is not 0.

    Where the last factor of the other row does not divide what stands there,
    something other than 0 is left at that place, and no later step touches it.
    """
    left = list(row)
    many = len(row) - len(other) + 1
    quotient = [0] * many
    for shift in range(many - 1, -1, -1):
        factor = left[shift + len(other) - 1] // other[-1]
        quotient[shift] = factor
        for i, x in enumerate(other):
            left[shift + i] = left[shift + i] - factor * x
    return quotient, left


def times_gap(row, power):
    """The row times p ** power - 1."""
    return added([0] * power + list(row), negated(row))


def over_gap(row, power):
    """The row divided by p ** power - 1, for a row that it divides."""
    quotient = []
    for i in range(len(row) - power):
        ahead = quotient[i - power] if i >= power else 0
        quotient.append(ahead - row[i])
    return quotient


def term_text(many, power):
    """The text of a term without its sign."""
    if power == 0:
        return str(many)
    letter = "p" if power == 1 else f"p^{power}"
    return letter if many == 1 else f"{many}{letter}"


def sign_text(factor, is_first):
    """What stands ahead of a term."""
    if is_first:
        return "-" if factor < 0 else ""
    return " - " if factor < 0 else " + "


def row_text(row):
    """The text of a row without zeros at its end."""
    words = []
    for power in range(len(row) - 1, -1, -1):
        if row[power] != 0:
            words.append(sign_text(row[power], len(words) == 0))
            words.append(term_text(abs(row[power]), power))
    return "".join(words) if len(words) > 0 else "0"


def read_whole(word):
    """The integer that is told by one to sixty digits, or None for other words."""
    if len(word) > MAX_DIGITS or not (word.isascii() and word.isdigit()):
        return None
    return int(word)


def read_term(word):
    """The factor and the power of a term with its sign; None for what the word does not tell."""
    digits, letter, power = word.removeprefix("-").partition("p")
    factor = read_whole(digits or "1")
    if factor is not None and word.startswith("-"):
        factor = -factor
    if letter == "":
        return factor, 0
    return factor, read_whole(power.removeprefix("^") or "1")


def read_row(text, most):
    """The row of at most so many factors with a text, or None for a text of no such row.

    The terms are read loosely. A text that is only nearly right is told by the
    end: it is not the text of the row that was read from it.
    """
    row = [0] * most
    for word in text.replace(" - ", " -").replace(" + ", " ").split(" "):
        factor, power = read_term(word)
        if factor is None or power is None or power >= most:
            return None
        row[power] = factor
    return trimmed(row) if row_text(trimmed(row)) == text else None
