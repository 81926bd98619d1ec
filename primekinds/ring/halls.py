"""Parts by kind and rest, for all primes at once."""

from primekinds.errors import TooMany
from primekinds.kind.falling import falling_rows, is_held, is_topped, number_at, turned_row
from primekinds.kind.kinds import require_kind
from primekinds.poly.polys import Poly
from primekinds.ring.steps import chained, flat_poly

MAX_HALL = 8


def require_call(kind, rest, inner):
    """Refuses what is no kind, and calls that are great."""
    require_kind(kind)
    require_kind(rest)
    require_kind(inner)
    if kind.size > MAX_HALL and not rest.is_flat and not inner.is_flat:
        raise TooMany(MAX_HALL)


def hall(kind, rest, inner):
    """The polynomial of the parts of the kind `inner` with a rest in the group of a kind."""
    require_call(kind, rest, inner)
    return hall_poly(kind.numbers, rest.numbers, inner.numbers)


def hall_poly(row, rest, inner):
    """The polynomial of the parts by rows of numbers."""
    if sum(rest) < sum(inner):
        # Kind and rest can be exchanged, and the lesser ones need less reckoning.
        rest, inner = inner, rest
    if sum(row) != sum(rest) + sum(inner) or not is_held(rest, row) or not is_held(inner, row):
        return Poly()
    if number_at(inner, 0) <= 1:
        return flat_poly(row, rest)
    if number_at(rest, 0) <= 1:
        return flat_poly(row, inner)
    inners = [other for other in inner_rows(row, sum(inner)) if is_topped(other, inner)]
    return counts_by_inner(row, rest, inners)[inner].get(rest, Poly())


def inner_rows(row, size):
    """All rows of a size that a row holds, the flat one first."""
    return [other for other in falling_rows(size, number_at(row, 0))[::-1] if is_held(other, row)]


def counts_by_inner(row, rest, inners):
    """The dict from the kinds of parts to the dicts from their rests that hold `rest` to the polynomials.

    What the flat steps of a kind tell is the count of this kind and, some times, those of the kinds that it tops; these
    stand ahead of it in `inners`.
    """
    counts = {}
    for inner in inners:
        steps = turned_row(inner)
        ends = chained(row, rest, steps)
        for other in counts:
            if is_topped(other, inner):
                times = chained(other, (), steps).get((), Poly())
                ends = ends_without(ends, counts[other], times)
        counts[inner] = ends
    return counts


def ends_without(ends, others, times):
    """A dict of polynomials less so many times the polynomials of another one, all of whose keys it has."""
    return {end: poly - others.get(end, Poly()) * times for end, poly in ends.items()}


def flat_hall(kind, rest):
    """The polynomial of the flat parts with a rest."""
    require_kind(kind)
    require_kind(rest)
    return flat_poly(kind.numbers, rest.numbers)


def can_part(kind, rest, inner):
    """Whether a group of the kind has a part of the kind `inner` with the rest."""
    return bool(hall(kind, rest, inner))


def pairs_in(kind):
    """The dict from the pairs of a rest and a kind of parts to the polynomials of these parts, where they are not 0."""
    require_kind(kind)
    if kind.size > MAX_HALL:
        raise TooMany(MAX_HALL)
    row = kind.numbers
    found = {}
    for size in range(kind.size // 2 + 1):
        counts = counts_by_inner(row, (), inner_rows(row, size))
        for inner, ends in counts.items():
            for rest, poly in ends.items():
                if poly != Poly():
                    found[(rest, inner)] = poly
                    found[(inner, rest)] = poly
    return {pair: found[pair] for pair in sorted(found)}


def lead_count(kind, rest, inner):
    """The lead of the polynomial of the parts."""
    return hall(kind, rest, inner).lead


def pairs_at_one(kind, rest, inner):
    """How many pairs of tuples have the numbers of the rest and of the inner kind, and add up to those of the kind."""
    require_kind(kind)
    require_kind(rest)
    require_kind(inner)
    rank = kind.rank
    if rest.rank > rank or inner.rank > rank:
        return 0
    # For each pair of what is not yet used of both, how many ways lead there.
    ways = {(filled_up(rest, rank), filled_up(inner, rank)): 1}
    for number in kind.numbers:
        ways = next_ways(ways, number)
    return sum(list(ways.values()))


def filled_up(kind, many):
    """The numbers of a kind, with zeros behind them."""
    return kind.numbers + (0,) * (many - kind.rank)


def next_ways(ways, number):
    """The ways that are left if one member of each tuple is used, and both make the number."""
    found = {}
    for (rest, inner), many in ways.items():
        for first in sorted(set(list(rest))):
            if number - first in inner:
                left = (without(rest, first), without(inner, number - first))
                found[left] = found.get(left, 0) + many
    return found


def without(row, number):
    """A row without one of its members that are the number."""
    index = row.index(number)
    return row[:index] + row[index + 1:]
