"""The examples of the document, as they stand."""

import unittest

import primekinds.base.wholes as wholes
import primekinds.kind.kinds as kinds
import primekinds.poly.polys as polys
from tests.helper import run_examples

STAGE_1 = """
>>> [str(Poly((1, -2, 0, 1))), Poly.read("-p^2 + 3").factors, Poly((0, 0)) == Poly(), str(Poly()), Poly((5, 1))(2), Poly().degree]
['p^3 - 2p + 1', (3, 0, -1), True, '0', 7, -1]
>>> one, other = Poly((1, 1)), Poly((-1, 1))
>>> [str(one * other), str(one + 3), str(-other), str(one.power(3)), str(one.raised(2)), str(Poly((1, 2, 3)).turned_round(4))]
['p^2 - 1', 'p + 4', '-p + 1', 'p^3 + 3p^2 + 3p + 1', 'p^3 + p^2', 'p^4 + 2p^3 + 3p^2']
>>> [str(part) for part in Poly((1, 0, 1)).divided(one)], str(Poly((-1, 0, 1)).over(other)), one[5], len(one), bool(Poly())
(['p - 1', '2'], 'p + 1', 0, 2, False)
>>> [str(binomial(4, 2)), str(binomial(2, 3)), str(heights(2)), str(flags(3)), is_prime(97), is_prime(True), is_prime(101)]
['p^4 + p^3 + 2p^2 + p + 1', '0', 'p^3 - p^2 - p + 1', 'p^3 + 2p^2 + 2p + 1', True, False, False]
>>> Poly((1, 0, 1)).over(one)
raises Refused(('rest',))
"""

STAGE_2 = """
>>> A, B, C = Kind((3, 1)), Kind((2, 2)), Kind((2, 1, 1))
>>> [A.size, A.rank, A.height, A.slant, str(A.turned), A.repeats, C.slant, C.is_flat, Kind().is_line, str(Kind())]
[4, 2, 3, 1, '[2 1 1]', {1: 1, 3: 1}, 3, False, True, '[]']
>>> [A.holds(Kind((2, 1))), B.holds(A), A.tops(B), B.tops(A), str(A + B), str(A.over(B)), str(Kind((2, 1)).opposite(3, 3)), A[0], A[5], list(A)]
[True, False, True, False, '[3 2 2 1]', '[5 3]', '[3 2 1]', 3, 0, [3, 1]]
>>> [[str(kind) for kind in kinds_of(4)], [str(kind) for kind in kinds_within(Kind((2, 1)))], [str(kind) for kind in sorted([C, A, B])]]
[['[4]', '[3 1]', '[2 2]', '[2 1 1]', '[1 1 1 1]'], ['[]', '[1]', '[2]', '[1 1]', '[2 1]'], ['[3 1]', '[2 2]', '[2 1 1]']]
>>> [[str(kind) for kind in flats_over(Kind((2,)), 2)], [str(kind) for kind in lines_over(Kind((2,)), 2)], Kind.read("[2 1 1]") == C]
[['[3 1]', '[2 1 1]'], ['[4]', '[3 1]', '[2 2]'], True]
>>> Kind.read("[3 4]")
raises ParseError(3)
>>> A.tops(Kind((2,)))
raises Refused(('size', 4, 2))
"""


class Examples(unittest.TestCase):
    def names(self):
        return {**vars(wholes), **vars(polys), **vars(kinds)}

    def test_stage_1(self):
        run_examples(self, STAGE_1, self.names())

    def test_stage_2(self):
        run_examples(self, STAGE_2, self.names())


if __name__ == "__main__":
    unittest.main()
