"""What the tests share: errors told as values, wrong values, examples, and what can be found by plain listing.

Groups are told here by a prime and the numbers of a kind, and parts by the sets of their elements.
"""

import itertools
import sys

import primekinds.errors as errors

KEPT = {
    "ParseError": "index",
    "InvalidNumber": "value",
    "UnknownName": "name",
    "TooMany": "limit",
    "Refused": "reason",
    "NothingToUndo": "many",
}


def error_of(call, *given):
    """The name of the error that a call raises, and behind it what the error keeps, if it keeps something."""
    try:
        result = call(*given)
    except Exception as error:
        name = error.__class__.__name__
        if error.__class__ is not getattr(errors, name, None):
            return (name,)
        return (name, getattr(error, KEPT[name])) if name in KEPT else (name,)
    return ("no error", result)


def is_like(one, other):
    """Whether two values are equal and of one class, member by member: so True is not 1."""
    if one.__class__ is not other.__class__:
        return False
    if isinstance(one, (tuple, list)):
        return len(one) == len(other) and all(is_like(x, y) for x, y in zip(one, other))
    if isinstance(one, dict):
        return is_like(list(one.items()), list(other.items()))
    return one == other


def lines_run(call):
    """How many lines a call runs."""
    many = 0

    def trace(frame, event, kept):
        nonlocal many
        many += event == "line"
        return trace

    old = sys.gettrace()
    sys.settrace(trace)
    try:
        call()
    finally:
        sys.settrace(old)
    return many


def first_of(generator, many):
    """The first ones of a generator; no others are asked for."""
    return list(itertools.islice(generator, many))


def odd_values():
    """Values that are no integers that may be passed."""
    from primekinds.desk.desk import Desk
    from primekinds.group.groups import Group
    from primekinds.group.parts import Part
    from primekinds.kind.kinds import Kind
    from primekinds.maps.joinings import Glue
    from primekinds.maps.maps import GroupMap
    from primekinds.poly.polys import Poly
    from primekinds.ring.rings import KindSum
    from primekinds.table.places import Place
    from primekinds.table.tables import Table
    group = Group(3, Kind((1,)))
    return (
        True, False, None, "", "1", "a\nb", (), (1,), ((1,), 2), [], [1], {}, {1: 2}, [[[[1]]]],
        Poly(), Poly((1,)), Kind(), Kind((1,)), 10 ** 60, -10 ** 60, 10 ** 99, -10 ** 99,
        group, Part(group, ((1,),)), GroupMap.itself(group), KindSum(), Glue(3, Kind(), Kind((1,)), ()),
        Table(3, 1, ((1,),)), Place(1, ((3,),)), Desk(group),
    )


def odd_ones(*left_out):
    """Those of the odd values that are of none of these classes."""
    return [value for value in odd_values() if not isinstance(value, left_out)]


def paper_values():
    """Values of every sort, many of them nearly papers."""
    words = (
        "images", "height", "sum", "mute", "beside", "higher", "into", "rank", "kept", "out", "makes", "within",
        "turned", "kinds", "none",
    )
    ends = (None, True, 0, 1, 10 ** 70, -1, (), (0,), (True, 0), ((0, 0), (0, 0)), "x", [0], {})
    pairs = [(word, end) for word in words for end in ends]
    return list(odd_values()) + pairs + [list(pair) for pair in pairs[:4]] + [pair + (0,) for pair in pairs[:4]] + [
        (word,) for word in words
    ] + list(words)


def run_examples(case, text, names):
    """Checks each example of a text that is written like those of the document."""
    lines = [line for line in text.split("\n") if line != ""]
    index = 0
    while index < len(lines):
        case.assertTrue(lines[index].startswith(">>> "), lines[index])
        source = lines[index][4:]
        told = lines[index + 1] if index + 1 < len(lines) and not lines[index + 1].startswith(">>> ") else None
        index += 1 if told is None else 2
        if told is None:
            exec(source, names)
            continue
        with case.subTest(source):
            if told.startswith("raises "):
                got = error_of(lambda: eval(source, names))
                kept = f"({', '.join(repr(value) for value in got[1:])})" if len(got) > 1 else ""
                case.assertEqual(got[0] + kept, told[7:])
            else:
                case.assertEqual(repr(eval(source, names)), told)


def falling(size):
    """The falling rows of a size, found by adding 1 at each place of those of the size below."""
    if size == 0:
        return {()}
    found = set()
    for row in falling(size - 1):
        for index in range(len(row) + 1):
            longer = row + (0,)
            more = longer[:index] + (longer[index] + 1,) + longer[index + 1:]
            found.add(tuple(sorted((number for number in more if number > 0), reverse=True)))
    return found


def ordered(size):
    """The falling rows of a size, the greatest one first."""
    return sorted(falling(size), reverse=True)


def cells(row):
    """The cells of a row: a number n at the index i has the cells (i, 0) to (i, n - 1)."""
    return {(i, j) for i, number in enumerate(row) for j in range(number)}


def row_of(some):
    """The numbers of a set of cells, without zeros."""
    firsts = [i for i, _ in some]
    return tuple(firsts.count(i) for i in range(max(firsts, default=-1) + 1) if firsts.count(i) > 0)


def rows_up_to(size):
    """All falling rows of the sizes from 0 to this one, in the order of kinds."""
    return [row for many in range(size + 1) for row in ordered(many)]


def elements_of(prime, numbers):
    """All elements of a group, ascending."""
    return list(itertools.product(*[range(prime ** number) for number in numbers]))


def plus(prime, numbers, one, other):
    """The sum of two elements."""
    return tuple((x + y) % prime ** number for x, y, number in zip(one, other, numbers))


def times(prime, numbers, one, many):
    """An element added so many times, for an integer from 0 on."""
    return tuple(x * many % prime ** number for x, number in zip(one, numbers))


def made_by(prime, numbers, makers):
    """The part made by some elements."""
    part = {(0,) * len(numbers)}
    for maker in makers:
        if maker not in part:
            part = grown(prime, numbers, part, maker)
    return frozenset(part)


def grown(prime, numbers, part, maker):
    """The part made by a part and one more element."""
    multiples = {times(prime, numbers, maker, many) for many in range(prime ** max(numbers, default=0))}
    return frozenset(plus(prime, numbers, one, other) for one in part for other in multiples)


def all_parts(prime, numbers):
    """All parts of a group, by adding elements to parts that are there."""
    found = {frozenset([(0,) * len(numbers)])}
    queue = list(found)
    for part in queue:
        seen = set(part)
        for maker in elements_of(prime, numbers):
            if maker not in seen:
                more = grown(prime, numbers, part, maker)
                seen |= more if len(more) == len(part) * prime else {maker}
                if more not in found:
                    found.add(more)
                    queue.append(more)
    return queue


def kind_by_counts(prime, counts):
    """The numbers of a kind, by how many elements p ** 0, p ** 1, .. lead to 0, until these are all."""
    logs = [next(k for k in itertools.count() if prime ** k == many) for many in counts]
    turned = [high - low for low, high in zip(logs, logs[1:])]
    return tuple(sum(number > i for number in turned) for i in range(max(turned, default=0)))


def kind_of(prime, numbers, part):
    """The numbers of the kind of a part."""
    zero = (0,) * len(numbers)
    powers = [prime ** k for k in range(max(numbers, default=0) + 1)]
    return kind_by_counts(prime, [sum(times(prime, numbers, x, many) == zero for x in part) for many in powers])


def rest_of(prime, numbers, part):
    """The numbers of the rest of a part."""
    powers = [prime ** k for k in range(max(numbers, default=0) + 1)]
    some = elements_of(prime, numbers)
    counts = [sum(times(prime, numbers, x, many) in part for x in some) // len(part) for many in powers]
    return kind_by_counts(prime, counts)


def row_of_heights(prime, numbers, one):
    """The height row of an element, by the sets of all multiples of powers of the prime."""
    some, row, zero = elements_of(prime, numbers), [], (0,) * len(numbers)
    sets = [{times(prime, numbers, x, prime ** h) for x in some} for h in range(max(numbers, default=0) + 1)]
    while one != zero:
        row.append(max(h for h, found in enumerate(sets) if one in found))
        one = times(prime, numbers, one, prime)
    return tuple(row)


def all_images(prime, numbers, others):
    """All tuples of elements of the second group that are the images of a map from the first one, ascending."""
    zero = (0,) * len(others)
    some = elements_of(prime, others)
    ends = [[x for x in some if times(prime, others, x, prime ** number) == zero] for number in numbers]
    return list(itertools.product(*ends))


def led_to(prime, others, images, one):
    """The element to which the map with some images leads an element."""
    return tuple(
        sum(many * image[i] for many, image in zip(one, images)) % prime ** number for i, number in enumerate(others)
    )


def groups_up_to(most, primes=(2, 3, 5, 7)):
    """The primes and numbers of all groups with at most so many elements."""
    return [(prime, row) for prime in primes for row in rows_up_to(8) if prime ** sum(row) <= most]
