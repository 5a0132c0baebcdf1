"""9.1 and 9.2: towers, their bars, pictures of them, cells exchanged."""

import unittest
from itertools import combinations

from mapwebs.lines import bars, reach
from mapwebs.pictures import Picture
from mapwebs.tables import Table, rank, times
from mapwebs.towers import Tower, exchanged, tower_bars, tower_picture
from mapwebs.webs import line
from samples import PRIMES, Checks, Mixer, far_numbers
from test_pictures import more_odd_things

# Six places of a plane without an edge, glued together crosswise: its rings tell 2 from the others.
CROSSED = [(0, 1, 4), (0, 1, 5), (0, 2, 3), (0, 2, 5), (0, 3, 4), (1, 2, 3), (1, 2, 4), (1, 3, 5), (2, 4, 5), (3, 4, 5)]


def faces(cell):
    return [cell[:at] + cell[at + 1:] for at in range(len(cell))] if len(cell) > 1 else []


def whole_of(cells):
    """The tower of these cells and all that they need, shallow ones ahead."""
    found = {part for cell in cells for length in range(1, len(cell) + 1) for part in combinations(cell, length)}
    return Tower(tuple(sorted(found, key=lambda cell: (len(cell), cell))))


def mixed_tower(mixer, most, names=7):
    """Cells drawn one by one, each as soon as all of its faces are there."""
    every = [cell for length in (1, 2, 3, 4) for cell in combinations(range(names), length)]
    cells = []
    while len(cells) < most:
        ready = [cell for cell in every if cell not in cells and all(face in cells for face in faces(cell))]
        if not ready:
            break
        cells.append(ready[mixer.below(len(ready))])
    return Tower(tuple(cells))


def some_towers():
    mixer = Mixer(140)
    found = [mixed_tower(mixer, most, names) for most, names in
             ((0, 3), (1, 3), (5, 3), (7, 3), (12, 4), (15, 4), (25, 5), (30, 6), (40, 6), (40, 10))]
    return found + [whole_of(CROSSED), whole_of([(3, 5, 7, 29)]), whole_of([(0, 1), (1, 2), (0, 2)]),
                    whole_of([(0, 1, 2), (0, 1, 3), (0, 2, 3), (1, 2, 3)])]


def rows_left(prime, rows):
    """As many rows as span what these do, none of them in vain."""
    kept = []
    for row in rows:
        row = list(row)
        for other, at in kept:
            if row[at]:
                number = row[at]
                row = [(x - number * y) % prime for x, y in zip(row, other)]
        places = [at for at, worth in enumerate(row) if worth % prime]
        if places:
            at = places[-1]
            inverse = [k for k in range(1, prime) if k * row[at] % prime == 1][0]
            kept.append(([x * inverse % prime for x in row], at))
    return [row for row, at in kept]


def rims(cells, prime, deep, moment):
    """The rims of the cells so deep that are there, as rows over all cells."""
    found = []
    for cell in cells[:moment]:
        if len(cell) == deep + 1:
            row = [0] * len(cells)
            for at, face in enumerate(faces(cell)):
                row[cells.index(face)] = (-1) ** at % prime
            found.append(row)
    return found


def rings(cells, prime, deep, moment):
    """Rows that span the chains without a rim, found by carrying units along."""
    mine = [at for at, cell in enumerate(cells[:moment]) if len(cell) == deep + 1]
    many = len(cells)
    rows = []
    for at, row in zip(mine, rims(cells, prime, deep, moment)):
        # Reduced from the last place on, the first half is cleared before the second one.
        rows.append([int(at == k) for k in range(many)] + row)
    return [row[:many] for row in rows_left(prime, rows) if not any(row[many:])]


def rank_between(cells, prime, deep, first, second):
    """Of how many rings at the first moment no sum but noughts is one with nought at the second one."""
    there = rings(cells, prime, deep, first)
    filled = rims(cells, prime, deep + 1, second)
    return len(rows_left(prime, filled + there)) - len(rows_left(prime, filled))


class Construction(Checks, unittest.TestCase):

    def test_right_ones(self):
        cells = ((0,), (29,), (5,), (5, 29), (0, 29), (0, 5), (0, 5, 29))
        tower = Tower(cells)
        self.assertEqual(tower.cells, cells)
        self.assertEqual(vars(tower), {"cells": cells})
        self.assertEqual(Tower(()).cells, ())
        forty = tuple((k,) for k in range(30)) + tuple((k, k + 1) for k in range(10))
        self.assertEqual(len(Tower(forty).cells), 40)
        for tower in some_towers():
            self.assertEqual(Tower(tower.cells), tower)

    def test_no_tuple_or_a_longer_one(self):
        forty = tuple((k,) for k in range(30)) + tuple((k, k + 1) for k in range(11))
        self.raises("BadTower", Tower, forty, index=-1)
        self.raises("BadTower", Tower, (None,) * 41, index=-1)
        self.raises("BadTower", Tower, [(0,)], index=-1)
        for thing in more_odd_things() + far_numbers():
            if not isinstance(thing, tuple) or len(thing) > 40:
                self.raises("BadTower", Tower, thing, index=-1)
            elif thing not in ((), ((0,),)):
                self.raises("BadTower", Tower, thing, index=0)

    def test_the_first_cell_that_is_none(self):
        ahead = ((0,), (1,), (0, 1), (2,), (0, 2))
        wrong = [(), (30,), (-1,), (True,), (False,), [3], 3, "3", None, (None,), ("3",), ((3,),), (0,), (2,), (0, 1),
                 (0, 2), (1, 0), (2, 1), (1, 1), (0, 0), (1, 2, 0), (0, 1, 2), (0, 3), (3, 4), (0, 1, 2, 3), [0, 1],
                 (0, 1, 2, 3, 4), {3: 3}, b"\x03", range(3, 4), (3, 3), (0, True), (10 ** 11,), (1, 30), (2, 0)]
        for cell in wrong + more_odd_things() + far_numbers():
            if cell != (1, 2):
                for behind in ((), ((1, 2),), (None,), ((3,), (4,))):
                    self.raises("BadTower", Tower, ahead + (cell,) + behind, index=5)
        for at in range(5):
            spoilt = ahead[:at] + (None,) + ahead[at + 1:]
            self.raises("BadTower", Tower, spoilt, index=at)
        self.raises("BadTower", Tower, ((0, 1), (0,), (1,)), index=0)
        self.raises("BadTower", Tower, ((0,), (0, 1), (1,)), index=1)
        square = ((0,), (1,), (2,), (0, 1), (0, 2))
        self.raises("BadTower", Tower, square + ((0, 1, 2), (1, 2)), index=5)
        self.assertEqual(Tower(square + ((1, 2), (0, 1, 2))).cells[6], (0, 1, 2))
        whole = whole_of([(0, 1, 2, 3)]).cells
        for at, cell in enumerate(whole):
            if len(cell) == 3:
                fewer = whole[:at] + whole[at + 1:]
                self.raises("BadTower", Tower, fewer, index=13)
        self.raises("BadTower", Tower, whole_of([(0, 1, 2), (0, 1, 3)]).cells + ((0, 1, 2, 3),), index=11)
        deep = tuple(cell for cell in whole_of([(0, 1, 2, 3)]).cells)
        self.raises("BadTower", Tower, deep + ((0, 1, 2, 3),), index=15)
        self.raises("BadTower", Tower, ((0,), (0,)), index=1)
        fives = whole_of([cell for cell in combinations(range(5), 4)]).cells
        self.raises("BadTower", Tower, fives + ((0, 1, 2, 3, 4),), index=30)

    def test_a_tower_is_equal_to_its_like_alone(self):
        one = Tower(((0,), (1,), (0, 1)))
        self.assertTrue(one == Tower(((0,), (1,), (0, 1))))
        self.assertFalse(one != Tower(((0,), (1,), (0, 1))))
        for other in [Tower(((1,), (0,), (0, 1))), Tower(((0,), (1,))), Tower(()), one.cells] + more_odd_things():
            self.assertFalse(one == other)
            self.assertFalse(other == one)
            self.assertTrue(one != other)
        self.assertIn("__eq__", vars(Tower))


class Bars(Checks, unittest.TestCase):

    def test_e08(self):
        self.assertEqual(tower_bars(Tower(((0,), (1,), (0, 1))), 2, 0), ((0, None), (1, 2)))

    def check(self, tower, prime, deep):
        found = self.same_twice(tower_bars, tower, prime, deep)
        self.assertIsInstance(found, tuple)
        self.assertEqual(list(found), sorted(found, key=lambda pair: pair[0]))
        self.assertEqual(len({born for born, gone in found}), len(found))
        for born, gone in found:
            self.assertIs(born.__class__, int)
            self.assertEqual(len(tower.cells[born]), deep + 1)
            if gone is not None:
                self.assertIs(gone.__class__, int)
                self.assertGreater(gone, born)
                self.assertEqual(len(tower.cells[gone]), deep + 2)
        return found

    def test_all_moments_by_counting_ranks(self):
        for number, tower in enumerate(some_towers()):
            moments = len(tower.cells) + 1
            for deep in range(4):
                prime = PRIMES[(number + deep) % 6]
                found = self.check(tower, prime, deep)
                step = 1 if moments < 20 else 5
                for first in range(0, moments, step):
                    for second in range(first, moments, step):
                        expected = sum(born < first and (gone is None or gone >= second) for born, gone in found)
                        self.assertEqual(rank_between(tower.cells, prime, deep, first, second), expected)

    def test_over_each_prime(self):
        mixer = Mixer(141)
        for prime in PRIMES:
            tower = mixed_tower(mixer, 20, 5)
            for deep in range(4):
                found = self.check(tower, prime, deep)
                for first in range(0, 21, 2):
                    for second in range(first, 21):
                        expected = sum(born < first and (gone is None or gone >= second) for born, gone in found)
                        self.assertEqual(rank_between(tower.cells, prime, deep, first, second), expected)

    def test_known_shapes(self):
        ring = whole_of([(0, 1), (1, 2), (0, 2)])
        self.assertEqual(tower_bars(ring, 5, 0), ((0, None), (1, 3), (2, 4)))
        self.assertEqual(tower_bars(ring, 5, 1), ((5, None),))
        ball = whole_of([(0, 1, 2), (0, 1, 3), (0, 2, 3), (1, 2, 3)])
        for prime in PRIMES:
            self.assertEqual(len([gone for _, gone in tower_bars(ball, prime, 2) if gone is None]), 1)
            self.assertEqual([gone for _, gone in tower_bars(ball, prime, 1) if gone is None], [])
            self.assertEqual(tower_bars(ball, prime, 3), ())
            filled = whole_of([(0, 1, 2, 3)])
            self.assertEqual([gone for deep in (1, 2, 3) for _, gone in tower_bars(filled, prime, deep) if gone is None],
                             [])
            crossed = whole_of(CROSSED)
            lasting = [len([1 for _, gone in tower_bars(crossed, prime, deep) if gone is None]) for deep in range(4)]
            self.assertEqual(lasting, [1, 1, 1, 0] if prime == 2 else [1, 0, 0, 0])
        self.assertEqual(tower_bars(Tower(()), 2, 0), ())
        self.assertEqual(tower_bars(Tower(((4,),)), 2, 0), ((0, None),))
        self.assertEqual(tower_bars(Tower(((4,),)), 2, 1), ())

    def test_errors_in_order(self):
        tower = Tower(((0,), (1,), (0, 1)))
        for thing in more_odd_things() + far_numbers() + [0, 1, 4, 14]:
            self.raises("NoPrime", tower_bars, tower, thing, 0)
            self.raises("NoPrime", tower_bars, tower, thing, thing)
            self.raises("NoPrime", tower_picture, tower, thing, thing, thing)
            self.raises("NoPrime", tower_picture, tower, thing, 0, (0, 1))
        for thing in more_odd_things() + far_numbers() + [4, 5]:
            self.raises("NoNumber", tower_bars, tower, 2, thing)
            self.raises("NoNumber", tower_picture, tower, 2, thing, (0, 1))
            self.raises("NoNumber", tower_picture, tower, 2, thing, thing)


class Pictures(Checks, unittest.TestCase):

    def cut_down(self, pairs, stops):
        """Bars of the stops at which a pair's ring is there."""
        found = {}
        for born, gone in pairs:
            there = [k for k, stop in enumerate(stops) if stop > born and (gone is None or stop <= gone)]
            if there:
                self.assertEqual(there, list(range(there[0], there[-1] + 1)))
                key = (there[0], there[-1])
                found[key] = found.get(key, 0) + 1
        return tuple(sorted(key + (many,) for key, many in found.items()))

    def some_stops(self, mixer, moments):
        yield (0,)
        yield (moments,)
        yield tuple(sorted({0, moments}))
        yield tuple(range(moments + 1))[-8:]
        for length in (2, 4, 8):
            yield tuple(sorted({mixer.below(moments + 1) for _ in range(length)}))

    def test_bars_cut_down_to_the_stops(self):
        mixer = Mixer(142)
        for number, tower in enumerate(some_towers()):
            for deep in range(4):
                prime = PRIMES[(number + deep) % 6]
                for stops in self.some_stops(mixer, len(tower.cells)):
                    picture = self.same_twice(tower_picture, tower, prime, deep, stops)
                    self.assertIsInstance(picture, Picture)
                    self.assertEqual((picture.web, picture.prime), (line(">" * (len(stops) - 1)), prime))
                    self.assertEqual(bars(picture), self.cut_down(tower_bars(tower, prime, deep), stops))

    def test_sizes_and_ranks_between_stops(self):
        mixer = Mixer(143)
        for tower in some_towers():
            for deep in (0, 1, 2):
                prime = PRIMES[mixer.below(6)]
                for stops in list(self.some_stops(mixer, len(tower.cells)))[-2:]:
                    picture = tower_picture(tower, prime, deep, stops)
                    for at, first in enumerate(stops):
                        self.assertEqual(picture.sizes[at], rank_between(tower.cells, prime, deep, first, first))
                        way = None
                        for more in range(at + 1, len(stops)):
                            table = picture.tables[more - 1]
                            way = table if way is None else times(table, way)
                            expected = rank_between(tower.cells, prime, deep, first, stops[more])
                            self.assertEqual(rank(way), expected)
                            self.assertEqual(reach(picture, at, more), expected)

    def test_sizes_beyond_the_bounds(self):
        tower = Tower(tuple((k,) for k in range(30)) + tuple((k, k + 1) for k in range(10)))
        picture = tower_picture(tower, 3, 0, (0, 10, 30, 35, 40))
        self.assertEqual(picture.sizes, (0, 10, 30, 25, 20))
        self.assertEqual(bars(picture), ((1, 2, 5), (1, 3, 4), (1, 4, 1), (2, 3, 1), (2, 4, 19)))

    def test_no_stops(self):
        tower = Tower(((0,), (1,), (0, 1)))
        wrong = [(), (0, 0), (1, 0), (0, 2, 1), (0, 4), (4,), (-1, 0), [0, 1], (0, True), (False,), (True, 2), (0, None),
                 (0, "1"), "01", b"\x00", range(3), {0: 1}, 0, 1, (0, (1,)), (0, 1, 1), (0, 10 ** 11)]
        for thing in wrong + more_odd_things() + far_numbers():
            self.raises("NoStops", tower_picture, tower, 2, 0, thing)
            self.raises("NoStops", tower_picture, tower, 2, 3, thing)
        points = Tower(tuple((k,) for k in range(12)))
        self.raises("NoStops", tower_picture, points, 2, 0, tuple(range(9)))
        self.assertEqual(tower_picture(points, 2, 0, tuple(range(8))).sizes, tuple(range(8)))
        self.assertEqual(tower_picture(Tower(()), 2, 0, (0,)).sizes, (0,))
        self.raises("NoStops", tower_picture, Tower(()), 2, 0, (1,))


class Exchanged(Checks, unittest.TestCase):

    def test_each_place(self):
        right = wrong = 0
        for tower in some_towers():
            for at in range(len(tower.cells) - 1):
                first, second = tower.cells[at], tower.cells[at + 1]
                if set(first) < set(second) and len(second) == len(first) + 1:
                    self.raises("NoExchange", exchanged, tower, at)
                    wrong += 1
                else:
                    found = self.same_twice(exchanged, tower, at)
                    self.assertIsInstance(found, Tower)
                    self.assertEqual(found.cells, tower.cells[:at] + (second, first) + tower.cells[at + 2:])
                    self.assertEqual(exchanged(found, at), tower)
                    right += 1
        self.assertGreater(right, 100)
        self.assertGreater(wrong, 5)

    def test_no_number(self):
        tower = Tower(((0,), (1,), (0, 1)))
        for thing in more_odd_things() + far_numbers() + [2, 3, 40]:
            self.raises("NoNumber", exchanged, tower, thing)
        for cells in ((), ((0,),)):
            for thing in (0, 1, -1, None):
                self.raises("NoNumber", exchanged, Tower(cells), thing)
        self.raises("NoExchange", exchanged, tower, 1)
        self.assertEqual(exchanged(tower, 0), Tower(((1,), (0,), (0, 1))))


if __name__ == "__main__":
    unittest.main()
