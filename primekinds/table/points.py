"""Places as rows of points, and the least tables of a product of their powers. Nothing is checked here.

The rows of a place have 0 ahead of their own place, and there an integer from 0 on. Where it is 0 the whole row is: no
point with 0 ahead of this place has anything else there.
"""

from primekinds.group.least import less_times


def factors_of(one, other):
    """The greatest common divisor of two integers, not both 0, and how often both of them make it together."""
    left, next_left = one, other
    factor, next_factor = 1, 0
    other_factor, next_other = 0, 1
    while next_left != 0:
        times = left // next_left
        left, next_left = next_left, left - times * next_left
        factor, next_factor = next_factor, factor - times * next_factor
        other_factor, next_other = next_other, other_factor - times * next_other
    return (left, factor, other_factor) if left > 0 else (-left, -factor, -other_factor)


def both_times(one, times, other, other_times):
    """So many times one row and so many times the other one, added up."""
    return tuple([times * x + other_times * y for x, y in zip(one, other)])


def with_point(rows, point):
    """The rows of all sums of multiples of some rows and a point."""
    made = []
    left = point
    for i, row in enumerate(rows):
        lead, more = row, left
        if left[i] != 0:
            part, times, other_times = factors_of(row[i], left[i])
            lead = both_times(row, times, left, other_times)
            more = both_times(left, row[i] // part, row, -(left[i] // part))
        made.append(lead)
        left = more
    return lowered(made)


def lowered(rows):
    """The rows with each integer made as little as can be by the rows below it."""
    done = []
    for row in rows[::-1]:
        least = row
        for place, lower in enumerate(done, start=len(row) - len(done)):
            if lower[place] > 0:
                least = less_times(least, lower, least[place] // lower[place])
        done = [least] + done
    return done


def rows_of_points(many, points):
    """The rows of all sums of integer multiples of some points."""
    rows = [(0,) * many for _ in range(many)]
    for point in points:
        rows = with_point(rows, point)
    return tuple(rows)


def met_rows(one, other):
    """The rows of the points of two places with equally many coordinates.

    A point of the one, twice side by side, less a point of the other one with zeros behind it, has zeros in its first
    half exactly if both points are equal.
    """
    many = len(one)
    zeros = (0,) * many
    rows = rows_of_points(2 * many, [(*row, *zeros) for row in other] + [(*row, *row) for row in one])
    return tuple([row[many:] for row in rows[many:]])


def divisors_of(number):
    """The ascending list of the divisors of an integer from 1 on."""
    return [divisor for divisor in range(1, number + 1) if number % divisor == 0]


def can_split(number, least):
    """Whether the number is a product of integers each of which is at least that of a tuple at its place."""
    if len(least) == 1:
        return number >= least[0]
    divisors = [divisor for divisor in divisors_of(number) if divisor >= least[0]]
    return any([can_split(number // divisor, least[1:]) for divisor in divisors])


def entries_below(number, least, place):
    """All ways to go on from a place in a tuple of integers from 0 on, ascending, that are each less than a factor.

    The factors have the number as their product, and each one is at least the integer of a tuple at its place.
    """
    if place == len(least):
        yield ()
        return
    entry, behind = 0, place + 1
    asked = least
    while can_split(number, asked):
        for entries in entries_below(number, asked, behind):
            yield (entry, *entries)
        entry += 1
        asked = (*least[:place], max(least[place], entry + 1), *least[behind:])


def tables_split(number, least):
    """All least tables with the number as the product from corner to corner, ascending.

    The integers there are at least those of a tuple.
    """
    if len(least) == 1:
        yield ((number,),)
        return
    for lead in [divisor for divisor in divisors_of(number) if divisor >= least[0]]:
        left, behind = number // lead, least[1:]
        if can_split(left, behind):
            for entries in entries_below(left, behind, 0):
                asked = tuple([max(low, entry + 1) for low, entry in zip(behind, entries)])
                for table in tables_split(left, asked):
                    yield ((lead, *entries), *[(0, *row) for row in table])
