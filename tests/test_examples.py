"""The examples of the document, as they stand."""

import pathlib
import unittest

import primekinds.base.wholes as wholes
import primekinds.chain.fillings as fillings
import primekinds.chain.inverse as inverse
import primekinds.chain.rows as rows
import primekinds.count.counts as counts
import primekinds.desk.desk as desk
import primekinds.group.groups as groups
import primekinds.group.parts as parts
import primekinds.kind.kinds as kinds
import primekinds.maps.joinings as joinings
import primekinds.maps.kept as kept
import primekinds.maps.maps as maps
import primekinds.poly.polys as polys
import primekinds.ring.halls as halls
import primekinds.ring.rings as rings
import primekinds.table.places as places
import primekinds.table.shares as shares
import primekinds.table.tables as tables
import primekinds.text.strings as strings
from tests.helper import run_examples

MODULES = (
    wholes, polys, kinds, groups, parts, counts, halls, rings, maps, joinings, kept, fillings, rows, inverse, tables,
    places, shares, strings, desk,
)

STAGE_1 = """
>>> [str(Poly((1, -2, 0, 1))), Poly.read("-p^2 + 3").factors, Poly((0, 0)) == Poly(), str(Poly()), Poly((5, 1))(2), Poly().degree]
['p^3 - 2p + 1', (3, 0, -1), True, '0', 7, -1]
>>> one, other = Poly((1, 1)), Poly((-1, 1))
>>> [str(one * other), str(one + 3), str(-other), str(one.power(3)), str(one.raised(2)), str(Poly((1, 2, 3)).turned_round(4))]
['p^2 - 1', 'p + 4', '-p + 1', 'p^3 + 3p^2 + 3p + 1', 'p^3 + p^2', 'p^4 + 2p^3 + 3p^2']
>>> [str(part) for part in Poly((1, 0, 1)).divided(one)], str(Poly((-1, 0, 1)).over(other)), one[5], len(one), bool(Poly())
(['p - 1', '2'], 'p + 1', 0, 2, False)
>>> [str(binomial(4, 2)), str(binomial(2, 3)), str(heights(2)), str(flags(3)), is_prime(97), is_prime(True), is_prime(101)]
['p^4 + p^3 + 2p^2 + p + 1', '0', 'p^3 - p^2 - p + 1', 'p^3 + 2p^2 + 2p + 1', True, False, False]
>>> Poly((1, 0, 1)).over(one)
raises Refused(('rest',))
"""

STAGE_2 = """
>>> A, B, C = Kind((3, 1)), Kind((2, 2)), Kind((2, 1, 1))
>>> [A.size, A.rank, A.height, A.slant, str(A.turned), A.repeats, C.slant, C.is_flat, Kind().is_line, str(Kind())]
[4, 2, 3, 1, '[2 1 1]', {1: 1, 3: 1}, 3, False, True, '[]']
>>> [A.holds(Kind((2, 1))), B.holds(A), A.tops(B), B.tops(A), str(A + B), str(A.over(B)), str(Kind((2, 1)).opposite(3, 3)), A[0], A[5], list(A)]
[True, False, True, False, '[3 2 2 1]', '[5 3]', '[3 2 1]', 3, 0, [3, 1]]
>>> [[str(kind) for kind in kinds_of(4)], [str(kind) for kind in kinds_within(Kind((2, 1)))], [str(kind) for kind in sorted([C, A, B])]]
[['[4]', '[3 1]', '[2 2]', '[2 1 1]', '[1 1 1 1]'], ['[]', '[1]', '[2]', '[1 1]', '[2 1]'], ['[3 1]', '[2 2]', '[2 1 1]']]
>>> [[str(kind) for kind in flats_over(Kind((2,)), 2)], [str(kind) for kind in lines_over(Kind((2,)), 2)], Kind.read("[2 1 1]") == C]
[['[3 1]', '[2 1 1]'], ['[4]', '[3 1]', '[2 2]'], True]
>>> Kind.read("[3 4]")
raises ParseError(3)
>>> A.tops(Kind((2,)))
raises Refused(('size', 4, 2))
"""

SHARED = """
>>> NONE, ONE, TWO, FLAT = Kind(), Kind((1,)), Kind((2,)), Kind((1, 1))
>>> STEP, LONG, WIDE = Kind((2, 1)), Kind((3, 1)), Kind((2, 2))
>>> G, H = Group(2, STEP), Group(3, FLAT)
"""

STAGE_3 = """
>>> list(H.members())[:4], G.size, G.orders, G.base, G.plus((3, 1), (2, 1)), G.times((1, 1), -1), str(G), (4, 0) in G, (1, True) in G
([(0, 0), (0, 1), (0, 2), (1, 0)], 8, (4, 2), ((1, 0), (0, 1)), (1, 0), (3, 1), 'group of [2 1] at 2', False, False)
>>> big = Group(2, LONG)
>>> [(big.order_of(x), big.height_of(x), big.height_row_of(x)) for x in ((2, 1), (2, 0), (4, 1), (0, 0))]
[(2, 0, (0, 2)), (2, 1, (1, 2)), (1, 0, (0,)), (0, None, ())]
>>> height_rows(LONG), [str(count_with(LONG, row)) for row in height_rows(LONG)]
(((), (0,), (0, 1, 2), (0, 2), (1, 2), (2,)), ['1', 'p^2 - p', 'p^4 - p^3', 'p^3 - 2p^2 + p', 'p^2 - p', 'p - 1'])
>>> str(count_at_least(LONG, (0, 2))), str(count_at_least(LONG, (1,))), str(count_with(LONG, (1,))), [str(order_count(LONG, many)) for many in (0, 1, 2, 3, 4)]
('p^3', 'p', '0', ['1', 'p^2', 'p^3', 'p^4', 'p^4'])
>>> is_leading(big, (2, 1), (2, 0), ("images", ((1, 0), (4, 0)))), is_leading(big, (2, 0), (2, 1), ("height", 0)), leading(big, (4, 0), (2, 0))[0]
(False, True, 'height')
>>> is_leading(big, (2, 1), (2, 0), ("images", ((1, 0), (0, 0)))), is_leading(big, (2, 1), (2, 0), ("images", ((1, 0), (1, 0))))
(True, False)
"""

STAGE_4 = """
>>> [str(part) for part in parts(G)]
['1 0/0 1', '1 0/0 2', '1 1/0 2', '2 0/0 1', '2 0/0 2', '2 1/0 2', '4 0/0 1', '4 0/0 2']
>>> turn, half = Part(G, ((1, 1),)), Part(G, ((2, 0),))
>>> [turn.table, len(turn), list(turn), str(turn.kind), str(turn.rest), str(turn.other_side), (3, 1) in turn, (1, 0) in turn]
[((1, 1), (0, 2)), 4, [(0, 0), (1, 1), (2, 0), (3, 1)], '[2]', '[1]', '2 1/0 2', True, False]
>>> [str(half.kind), str(half.rest), str(half.other_side), turn.holds(half), str(turn & half.other_side), str(turn | Part(G, ((0, 1),)))]
['[1]', '[1 1]', '2 0/0 1', True, '2 0/0 2', '1 0/0 1']
>>> [paired(G, (1, 1), (1, 1)), paired(G, (1, 0), (0, 1)), is_table(G, ((4, 1), (0, 2))), is_table(G, ((2, 1), (0, 2)))]
[3, 0, False, True]
>>> [is_member_paper(turn, (3, 1), ("sum", (3, 0))), is_member_paper(turn, (1, 0), ("mute", (2, 1))), member_paper(turn, (1, 0))]
[True, True, ('mute', (2, 1))]
>>> [beside_paper(half), is_beside_paper(turn, ("beside", Part(G, ((0, 1),)))), is_beside_paper(turn, ("beside", Part(G, ((2, 1),)))), is_beside_paper(turn, ("higher", (2, 0)))]
[('higher', (2, 0)), True, True, False]
>>> Part(G, ((4, 0),))
raises InvalidPart
"""

STAGE_5 = """
>>> [str(part_count(STEP, ONE)), str(part_count(STEP, TWO)), str(part_count(STEP, FLAT)), str(part_count(STEP, Kind((3,))))]
['p + 1', 'p', '1', '0']
>>> [[str(poly) for poly in by_size(STEP)], str(all_count(STEP)), all_count(STEP)(2), str(size_count(STEP, 2))]
[['1', 'p + 1', 'p + 1', '1'], '2p + 4', 8, 'p + 1']
>>> [(numbers, str(poly)) for numbers, poly in kind_counts(STEP).items()]
[((), '1'), ((1,), 'p + 1'), ((1, 1), '1'), ((2,), 'p'), ((2, 1), '1')]
>>> [kind_of_counts(by_size(STEP)) == STEP, kind_of_counts((Poly((1,)), Poly((2,)))), tuples_within(STEP, ONE), part_count(STEP, ONE)(1)]
[True, None, 2, 2]
>>> size_count(STEP, 4)
raises InvalidNumber(4)
"""

STAGE_6 = """
>>> [str(hall(STEP, ONE, TWO)), str(hall(STEP, FLAT, ONE)), str(hall(STEP, TWO, ONE)), str(hall(LONG, TWO, TWO)), str(hall(WIDE, TWO, TWO)), str(hall(WIDE, TWO, FLAT))]
['p', '1', 'p', 'p - 1', 'p^2 + p', '0']
>>> [str(hall(Kind((3, 2, 1)), STEP, STEP)), str(hall(Kind((4, 2)), Kind((3,)), STEP)), str(flat_hall(Kind((2, 1, 1)), TWO)), str(flat_hall(TWO, STEP)), str(hall(Kind((9, 2)), Kind((8, 2)), ONE))]
['2p^2 + p - 1', 'p', 'p^2', '0', '1']
>>> [can_part(LONG, TWO, TWO), can_part(WIDE, FLAT, TWO), lead_count(Kind((3, 2, 1)), STEP, STEP), pairs_at_one(LONG, TWO, TWO), pairs_at_one(WIDE, TWO, TWO), pairs_at_one(Kind((3, 2, 1)), STEP, STEP)]
[True, False, 2, 0, 2, 2]
>>> [(pair, str(poly)) for pair, poly in pairs_in(STEP).items()]
[(((), (2, 1)), '1'), (((1,), (1, 1)), '1'), (((1,), (2,)), 'p'), (((1, 1), (1,)), '1'), (((2,), (1,)), 'p'), (((2, 1), ()), '1')]
>>> hall(Kind((5, 4)), Kind((3, 2)), Kind((2, 2)))
raises TooMany(8)
"""

STAGE_7 = """
>>> x, y, z = KindSum.of(ONE), KindSum.of(TWO), KindSum.of(FLAT)
>>> [str(x * x), str(x * y), str(y * y), str(x * y - y * x), str(KindSum()), len(x * y), FLAT in x * x, ONE in x * x]
['(1)[2] + (p + 1)[1 1]', '(1)[3] + (p)[2 1]', '(1)[4] + (p - 1)[3 1] + (p^2 + p)[2 2]', '0', '0', 2, True, False]
>>> [str((x * x)[FLAT]), (x * x)(2), (x * x)(-1), str(y * 2 - z * Poly((0, 1))), str(few_rows(y * y, 1)), (x * KindSum.of(STEP)).terms == (KindSum.of(STEP) * x).terms]
['p + 1', {(1, 1): 3, (2,): 1}, {(2,): 1}, '(2)[2] + (-p)[1 1]', '(1)[4]', True]
>>> {lot: str(poly) for lot, poly in in_flats(KindSum.of(Kind((3,)))).items()}
{(1, 1, 1): '1', (2, 1): '-2p - 1', (3,): 'p^3 + p^2 + p'}
>>> [of_flats(in_flats(y * z)) == y * z, str(whole(2)), str(signed_flat(2)), bool(whole(2) + signed_flat(1) * whole(1) + signed_flat(2))]
[True, '(1)[2] + (1)[1 1]', '(p)[1 1]', False]
>>> KindSum.of(Kind((5,))) * KindSum.of(Kind((4,)))
raises TooMany(8)
"""

STAGE_8 = """
>>> [str(map_count(STEP, TWO)), str(undoable_count(STEP)), str(one_to_one_count(ONE, STEP)), str(onto_count(STEP, ONE)), str(onto_count(ONE, STEP))]
['p^3', 'p^5 - 2p^4 + p^3', 'p^2 - 1', 'p^2 - 1', '0']
>>> [(numbers, str(poly)) for numbers, poly in image_counts(STEP, TWO).items()]
[((), '1'), ((1,), 'p^2 - 1'), ((2,), 'p^3 - p^2')]
>>> [kind_of_maps((2, 3)) == STEP, kind_of_maps((2, 3, 4)) == LONG, kind_of_maps((1, 3)), kind_of_maps(()) == NONE]
[True, True, None, True]
>>> line = Group(2, TWO)
>>> lead = GroupMap(G, line, ((1,), (2,)))
>>> [lead((3, 1)), lead.image.kind == TWO, lead.kernel.kind == ONE, lead.source((3,)), lead.source((0,)), str(lead), len(list(maps(G, line)))]
[(1,), True, True, (1, 1), (0, 0), 'map of [2 1] to [2] at 2', 8]
>>> [is_into_paper(G, line, ("rank", 0)), is_into_paper(G, line, ("rank", 1)), is_into_paper(line, G, ("into", ((1, 1),))), is_into_paper(line, G, ("into", ((2, 1),)))]
[True, False, True, False]
>>> [(GroupMap.itself(line) * lead) == lead, (lead + -lead).images, lead.is_onto(), lead.is_one_to_one(), is_images(G, line, ((1,), (1,)))]
[True, ((0,), (0,)), True, False, False]
>>> ~lead
raises Refused(('kernel', (2, 1)))
"""

STAGE_9 = """
>>> one, other = Glue(2, ONE, ONE, ((1,),)), Glue(2, TWO, TWO, ((3,),))
>>> [str(one), str(one.kind), str(other.kind), one.is_split, one.order_of(((1,), (0,))), one.plus(((1,), (0,)), ((1,), (1,))), list(one.members())]
['glue of [1] to [1] at 2: [2]', '[2]', '[4]', False, 2, ((0,), (0,)), [((0,), (0,)), ((0,), (1,)), ((1,), (0,)), ((1,), (1,))]]
>>> [[str(glue.kind) for glue in glues(2, TWO, TWO)], str((one + one).kind), (-one) == one, [str(glue.kind) for glue in glues(3, ONE, TWO)]]
[['[2 2]', '[4]', '[3 1]', '[4]'], '[1 1]', True, ['[2 1]', '[3]', '[3]']]
>>> {kind: str(poly) for kind, poly in joined_counts(TWO, TWO).items()}
{(2, 2): '1', (3, 1): 'p - 1', (4,): 'p^2 - p'}
>>> [str(glue_count(FLAT, TWO)), {kind: str(poly) for kind, poly in joined_counts(FLAT, TWO).items()}]
['p^2', {(2, 1, 1): '1', (3, 1): 'p^2 - 1'}]
>>> [str(crossed_count(ONE, ONE, ONE, ONE)), str(quarter_sum(ONE, ONE, ONE, ONE)), str(crossed_count(TWO, ONE, ONE, FLAT)), str(crossed_count(TWO, ONE, ONE, ONE))]
['2p', '2p^2 - 4p + 2', '1', '0']
>>> Glue(2, TWO, TWO, ((4,),))
raises InvalidTable
"""

STAGE_10 = """
>>> [kept_rows(LONG), kept_rows(WIDE), kept_rows(NONE), len(kept_rows(Kind((5, 3, 3, 1)))), len(kept_rows(LONG)) == len(height_rows(LONG))]
[((0, 0), (1, 0), (1, 1), (2, 0), (2, 1), (3, 1)), ((0, 0), (1, 1), (2, 2)), ((),), 18, True]
>>> big = Group(2, LONG)
>>> odd, flat = Part(big, ((2, 1),)), kept_part(big, (2, 0))
>>> [str(flat.kind), str(flat.rest), (4, 1) in flat, (2, 0) in flat, is_kept(flat), is_kept(odd), kept_paper(flat)]
['[1 1]', '[2]', True, False, True, False, ('kept', (2, 0))]
>>> [is_kept_paper(odd, ("out", ((1, 0), (0, 0)), (2, 1))), is_kept_paper(odd, ("out", ((3, 0), (4, 1)), (2, 1))), is_kept_paper(odd, ("kept", (1, 0))), kept_paper(odd)[0]]
[True, False, False, 'out']
>>> [kept_paper(least_kept(odd))[1], kept_paper(greatest_kept(odd))[1], least_kept(flat) == flat, len(undoable_kept(big)), odd in undoable_kept(big), len(undoable_kept(Group(3, LONG)))]
[(1, 0), (2, 1), True, 7, True, 6]
>>> [has_odd_parts(2, LONG), has_odd_parts(3, LONG), has_odd_parts(2, STEP), has_odd_parts(2, Kind((3, 3, 1))), has_odd_parts(2, Kind((6, 4, 2)))]
[True, False, False, False, True]
>>> kept_part(big, (0, 1))
raises InvalidOperation
"""

STAGE_11 = """
>>> three = Kind((1, 1, 1))
>>> [list(fillings(STEP, (1, 1, 1))), [weight(word_of(one)) for one in fillings(STEP, (1, 1, 1))], filling_count(LONG, (1, 2, 1)), filling_count(LONG, (2, 0, 2))]
[[((1, 2), (3,)), ((1, 3), (2,))], [2, 1], 2, 1]
>>> [str(weight_poly(STEP, three)), str(weight_poly(Kind((3,)), STEP)), str(weight_poly(STEP, STEP)), str(weight_poly(STEP, Kind((3,)))), word_of(((1, 1, 2), (3,)))]
['p^2 + p', 'p', '1', '0', (3, 1, 1, 2)]
>>> [is_filling(STEP, (2, 1), ((1, 1), (2,))), is_filling(STEP, (2, 1), ((1, 2), (1,))), is_filling(STEP, (2, 1), ((1, 1), (3,)))]
[True, False, False]
>>> [str(row_count(three, (1, 1, 1))), str(row_count(STEP, (1, 1, 1))), str(row_count(STEP, (2, 1))), str(flat_row_count(STEP, (2, 1))), str(flat_row_count(three, (1, 2)))]
['p^3 + 2p^2 + 2p + 1', '2p + 1', 'p + 1', '1', 'p^2 + p + 1']
>>> [str(step_row_count(STEP, (ONE, TWO))), str(step_row_count(STEP, (ONE, FLAT))), str(step_row_count(STEP, (TWO, ONE)))]
['p', '1', 'p']
>>> [[len(part) for part in row] for row in rows_of_parts(G, (2, 1))], len(list(rows_of_parts(G, (1, 1, 1))))
([[4, 8], [4, 8], [4, 8]], 5)
>>> weight((1, 2, 2))
raises Refused(('contents', 1))
"""

STAGE_12 = """
>>> G, F = Group(2, Kind((2, 1))), Group(2, Kind((1, 1)))
>>> [len(greatest_parts(G)), len(greatest_parts(F)), str(inverse_count(Kind((2, 1)), 2)), str(inverse_count(Kind((3,)), 1)), str(inverse_count(Kind((3,)), 2))]
[3, 3, 'p', '-1', '0']
>>> [str(making_count(Kind((1, 1)), 2)), making_count(Kind((2, 1)), 2)(2), str(making_count(Kind((1, 1)), 1)), str(making_count(Kind(), 0))]
['p^4 - p^3 - p^2 + p', 24, '0', '1']
>>> [inverse(Part(G, ()), Part(G, ((2, 0), (0, 1)))), inverse(Part(G, ()), Part(G, ((1, 0),))), inverse(Part(G, ((2, 0),)), Part(G, ((1, 0), (0, 1))))]
[2, 0, 2]
>>> [beside_count(Part(G, ((1, 0),))), beside_count(Part(G, ((2, 0),))), beside_count(Part(G, ((0, 1),)))]
[2, 0, 2]
>>> [is_makes_paper(G, ((1, 1), (0, 1)), ("makes", ((1, 1), (0, 1)))), is_makes_paper(G, ((1, 0), (3, 0)), ("within", Part(G, ((1, 0),))))]
[True, True]
>>> [sums_below(F, (1, 1, 1, 1, 1)), inverted(F, (5, 2, 2, 2, 1)), makes_paper(F, ((1, 0), (1, 0)))[0]]
[(5, 2, 2, 2, 1), (1, 1, 1, 1, 1), 'within']
>>> makes_paper(G, ((0, 2),))
raises InvalidElement
"""

STAGE_13 = """
>>> one, other = Table(2, 2, ((1, 1), (1, 3))), Table(2, 2, ((2, 0), (0, 1)))
>>> [str(one), str(one.left), str(other.plain()), one.is_turning, is_alike_paper(one, other, alike_paper(one, other)), alike_paper(one, Table(2, 2, ((2, 0), (0, 2))))[0]]
['1 1/1 3 modulo 2^2', '[1]', '1 0/0 2 modulo 2^2', False, True, 'kinds']
>>> [str(left_count(2, 2, 2, Kind((1,)))), str(left_count(2, 2, 2, Kind((1, 1, 1)))), [left_count(2, 2, 2, Kind(row))(2) for row in ((), (1,), (2,), (1, 1), (2, 1), (2, 2))]]
['p^7 - 2p^5 + p^3', '0', [96, 72, 72, 6, 9, 1]]
>>> place = Place(2, ((2, 0), (1, 3)))
>>> [str(place), place.class_count, [str(place.kind_at(prime)) for prime in (2, 3, 5)], (4, 0) in place, (3, 0) in place, [some.table for some in places(2, 2)]]
['place of 1 3/0 6', 6, ['[1]', '[1]', '[]'], True, False, [((1, 0), (0, 2)), ((1, 1), (0, 2)), ((2, 0), (0, 1))]]
>>> [index_count(3, 4), str(index_poly(2, 2)), str(place_count(2, Kind((2,)))), share(2, Kind((1, 1))), size_share(2, 2), onto_share(2, 3, Kind((1,))), left_share(2, 2, 2, 2, Kind((1,)))]
[35, 'p^2 + p + 1', 'p^2 + p', (1, 6), (2, 3), (2, 3), (9, 32)]
>>> Place(2, ((1, 2), (2, 4)))
raises Refused(('thin',))
"""

STAGE_14 = """
>>> [write_value(Poly((1, 0, -2))), write_value(STEP), write_value(G), write_value(Part(G, ((1, 1),))), write_value(Table(2, 2, ((1, 2, 3), (0, 0, 1))))]
['poly 1 0 -2', 'kind 2 1', 'group 2 2 1', 'part 2 2 1 / 1 1 0 2', 'table 2 2 3 1 2 3 0 0 1']
>>> [write_value(GroupMap(G, Group(2, TWO), ((1,), (2,)))), write_value(Place(2, ((2, 0), (1, 3)))), read_value("kind") == NONE, read_value("part 2 1 / 2").kind == NONE]
['map 2 2 1 / 2 / 1 2', 'place 2 1 3 0 6', True, True]
>>> read_value("kind 3 01")
raises ParseError(2)
>>> read_value("kind 3 4")
raises ParseError(3)
>>> desk, turn = Desk(G), Part(G, ((1, 1),))
>>> [desk.put("x", turn), desk.follow("y", "side", "x"), desk.follow("z", "met", "x", "y"), desk.promise("p", ("kind", "y", (1,))), str(desk)]
[1, 2, 3, 4, 'desk of [2 1] at 2 with 3 names, 1 promises']
>>> [str(desk.part_under("y")), str(desk.part_under("z")), desk.rule("z"), desk.hanging("x"), desk.broken_by("x", Part(G, ()))]
['2 1/0 2', '4 0/0 2', ('met', 'x', 'y'), ('y', 'z'), ('p',)]
"""


class Examples(unittest.TestCase):
    def names(self):
        """The names that the examples use; no name of one module is one of another."""
        names = {}
        for module in MODULES:
            names.update({key: value for key, value in vars(module).items() if not key.startswith("_")})
        run_examples(self, SHARED, names)
        return names

    def test_stage_1(self):
        run_examples(self, STAGE_1, self.names())

    def test_stage_2(self):
        run_examples(self, STAGE_2, self.names())

    def test_stage_3(self):
        run_examples(self, STAGE_3, self.names())

    def test_stage_4(self):
        run_examples(self, STAGE_4, self.names())

    def test_stage_5(self):
        run_examples(self, STAGE_5, self.names())

    def test_stage_6(self):
        run_examples(self, STAGE_6, self.names())

    def test_stage_7(self):
        run_examples(self, STAGE_7, self.names())

    def test_stage_8(self):
        run_examples(self, STAGE_8, self.names())

    def test_stage_9(self):
        run_examples(self, STAGE_9, self.names())

    def test_stage_10(self):
        run_examples(self, STAGE_10, self.names())

    def test_stage_11(self):
        run_examples(self, STAGE_11, self.names())

    def test_stage_12(self):
        run_examples(self, STAGE_12, self.names())

    def test_stage_13(self):
        run_examples(self, STAGE_13, self.names())

    def test_stage_14(self):
        run_examples(self, STAGE_14, self.names())

    def test_the_readme(self):
        text = (pathlib.Path(__file__).resolve().parent.parent / "README.md").read_text("ascii")
        blocks = text.split("```python\n")[1:]
        self.assertEqual(len(blocks), 9)
        run_examples(self, "".join(block.split("```")[0] for block in blocks), {})


if __name__ == "__main__":
    unittest.main()
