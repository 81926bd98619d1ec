"""Kinds told in other ways than the program reckons them: as sets of cells, and by plain listing."""


def falling(size):
    """The falling rows of a size, found by adding 1 at each place of those of the size below."""
    if size == 0:
        return {()}
    found = set()
    for row in falling(size - 1):
        for index in range(len(row) + 1):
            longer = row + (0,)
            more = longer[:index] + (longer[index] + 1,) + longer[index + 1:]
            found.add(tuple(sorted((number for number in more if number > 0), reverse=True)))
    return found


def ordered(size):
    """The falling rows of a size, the greatest one first."""
    return sorted(falling(size), reverse=True)


def cells(row):
    """The cells of a row: a number n at the index i has the cells (i, 0) to (i, n - 1)."""
    return {(i, j) for i, number in enumerate(row) for j in range(number)}


def row_of(some):
    """The numbers of a set of cells, without zeros."""
    firsts = [i for i, _ in some]
    return tuple(firsts.count(i) for i in range(max(firsts, default=-1) + 1) if firsts.count(i) > 0)


def rows_up_to(size):
    """All falling rows of the sizes from 0 to this one, in the order of kinds."""
    return [row for many in range(size + 1) for row in ordered(many)]
