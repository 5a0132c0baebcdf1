"""The examples e01 to e11, one test each."""

import unittest

from mapwebs.barlists import ban, nearest, pairing
from mapwebs.forms import endless, euler, form, kinds, rows
from mapwebs.finite import leadings_told
from mapwebs.leadings import many_leadings
from mapwebs.lines import bars, bars_told, reach
from mapwebs.loops import loop_kinds
from mapwebs.partings import parting
from mapwebs.pencils import pencil_kinds, pencil_of
from mapwebs.pictures import Picture
from mapwebs.polynomials import companion, factors, least_polynomial
from mapwebs.seals import is_piece, seal
from mapwebs.tables import Table, kernel, led, plain, reduced, times
from mapwebs.texts import picture_text
from mapwebs.towers import Tower, tower_bars
from mapwebs.turns import lost, turn
from mapwebs.webs import Web, line


class Examples(unittest.TestCase):

    def setUp(self):
        self.web = Web(3, ((0, 1), (2, 1)))
        one = Table(2, 1, ((1,),))
        self.p = Picture(self.web, 2, (1, 1, 1), (one, one))
        self.q = Picture(line(">"), 2, (2, 1), (Table(2, 2, ((1, 0),)),))

    def test_e01(self):
        self.assertEqual(times(Table(2, 2, ((1, 1), (0, 1))), Table(2, 2, ((1, 1), (0, 1)))), plain(2, 2))
        t = Table(3, 3, ((0, 2, 1), (1, 1, 1)))
        self.assertEqual(reduced(t).rows, ((1, 0, 2), (0, 1, 2)))
        self.assertEqual(kernel(t), ((1, 1, 1),))
        self.assertEqual(led(t, (1, 1, 0)), (2, 2))

    def test_e02(self):
        self.assertEqual(factors(2, (1, 0, 1)), (((1, 1), 2),))
        self.assertEqual(companion(2, (1, 1, 1)).rows, ((0, 1), (1, 1)))
        self.assertEqual(least_polynomial(plain(5, 3)), (4, 1))

    def test_e03(self):
        self.assertEqual(many_leadings(self.p, self.p), 1)
        self.assertEqual(seal(self.p)[0], ())
        self.assertIs(is_piece(self.p), True)
        self.assertEqual(len(parting(self.q)[0]), 2)

    def test_e04(self):
        self.assertEqual(kinds(self.web), [("A", 3)])
        self.assertEqual(rows(self.web), [(0, 0, 1), (0, 1, 0), (0, 1, 1), (1, 0, 0), (1, 1, 0), (1, 1, 1)])
        self.assertEqual(euler(self.web, (1, 1, 1), (0, 1, 0)), -1)
        self.assertEqual(leadings_told(self.web, (0, 1, 0), (1, 1, 1)), 1)

    def test_e05(self):
        pencil = Web(2, ((0, 1), (0, 1)))
        self.assertEqual(form(pencil, (1, 1)), 0)
        self.assertEqual(kinds(pencil), [None])
        self.assertIsNone(endless(self.web))

    def test_e06(self):
        self.assertEqual(turn(self.p, 1).sizes, (1, 1, 1))
        self.assertEqual(turn(self.p, 1).web.arrows, ((1, 0), (1, 2)))
        self.assertEqual(lost(self.p, 1), 0)

    def test_e07(self):
        self.assertEqual(bars(self.q), ((0, 0, 1), (0, 1, 1)))
        self.assertEqual(reach(self.q, 0, 1), 1)
        self.assertEqual(bars_told(2, {(0, 0): 1, (0, 1): 1, (1, 1): 0}), ("none", 1, 1))

    def test_e08(self):
        self.assertEqual(tower_bars(Tower(((0,), (1,), (0, 1))), 2, 0), ((0, None), (1, 2)))

    def test_e09(self):
        self.assertEqual(pairing([(0, 4)], [(1, 4)], 1), ((0, 0),))
        self.assertEqual(ban([(0, 4)], [], 1), (0, (0,)))
        self.assertEqual(nearest([(0, 4)], []), 2)

    def test_e10(self):
        self.assertEqual(loop_kinds(Table(2, 2, ((0, 1), (1, 1)))), (((1, 1, 1), 1, 1),))
        self.assertEqual(pencil_kinds(pencil_of(3, ("up", 1))), ((("up", 1), 1),))

    def test_e11(self):
        self.assertEqual(picture_text(self.q), "prime 2\nplaces 2\narrow 0 1\nsizes 2 1\ntable\n1 0\n")


if __name__ == "__main__":
    unittest.main()
