"""What the tests share: errors told as values, wrong values, examples, and kinds found by plain listing."""

import primekinds.errors as errors

KEPT = {
    "ParseError": "index",
    "InvalidNumber": "value",
    "UnknownName": "name",
    "TooMany": "limit",
    "Refused": "reason",
    "NothingToUndo": "many",
}


def error_of(call, *given):
    """The name of the error that a call raises, and behind it what the error keeps, if it keeps something."""
    try:
        result = call(*given)
    except Exception as error:
        name = error.__class__.__name__
        if error.__class__ is not getattr(errors, name, None):
            return (name,)
        return (name, getattr(error, KEPT[name])) if name in KEPT else (name,)
    return ("no error", result)


def is_like(one, other):
    """Whether two values are equal and of one class, member by member: so True is not 1."""
    if one.__class__ is not other.__class__:
        return False
    if isinstance(one, (tuple, list)):
        return len(one) == len(other) and all(is_like(x, y) for x, y in zip(one, other))
    if isinstance(one, dict):
        return is_like(list(one.items()), list(other.items()))
    return one == other


def odd_values():
    """Values that are no integers that may be passed."""
    from primekinds.kind.kinds import Kind
    from primekinds.poly.polys import Poly
    return (
        True, False, None, "", "1", "a\nb", (), (1,), ((1,), 2), [], [1], {}, {1: 2}, [[[[1]]]],
        Poly(), Poly((1,)), Kind(), Kind((1,)), 10 ** 60, -10 ** 60, 10 ** 99, -10 ** 99,
    )


def run_examples(case, text, names):
    """Checks each example of a text that is written like those of the document."""
    lines = [line for line in text.split("\n") if line != ""]
    index = 0
    while index < len(lines):
        case.assertTrue(lines[index].startswith(">>> "), lines[index])
        source = lines[index][4:]
        told = lines[index + 1] if index + 1 < len(lines) and not lines[index + 1].startswith(">>> ") else None
        index += 1 if told is None else 2
        if told is None:
            exec(source, names)
            continue
        with case.subTest(source):
            if told.startswith("raises "):
                got = error_of(lambda: eval(source, names))
                case.assertEqual(f"{got[0]}({', '.join(repr(kept) for kept in got[1:])})", told[7:])
            else:
                case.assertEqual(repr(eval(source, names)), told)


def falling(size):
    """The falling rows of a size, found by adding 1 at each place of those of the size below."""
    if size == 0:
        return {()}
    found = set()
    for row in falling(size - 1):
        for index in range(len(row) + 1):
            longer = row + (0,)
            more = longer[:index] + (longer[index] + 1,) + longer[index + 1:]
            found.add(tuple(sorted((number for number in more if number > 0), reverse=True)))
    return found


def ordered(size):
    """The falling rows of a size, the greatest one first."""
    return sorted(falling(size), reverse=True)


def cells(row):
    """The cells of a row: a number n at the index i has the cells (i, 0) to (i, n - 1)."""
    return {(i, j) for i, number in enumerate(row) for j in range(number)}


def row_of(some):
    """The numbers of a set of cells, without zeros."""
    firsts = [i for i, _ in some]
    return tuple(firsts.count(i) for i in range(max(firsts, default=-1) + 1) if firsts.count(i) > 0)


def rows_up_to(size):
    """All falling rows of the sizes from 0 to this one, in the order of kinds."""
    return [row for many in range(size + 1) for row in ordered(many)]
