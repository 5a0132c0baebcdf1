"""10.1: bar lists, pairings, bans, nearest; e09."""

import unittest
from itertools import combinations, permutations

from mapwebs.barlists import ban, is_ban, is_pairing, nearest, pairing
from samples import Checks, Mixer, far_numbers
from test_pictures import more_odd_things

TWENTY = [(-1000, 1000)] * 20
WRONG_BARS = [(0, 0), (1, 0), (-1001, 0), (0, 1001), (-1001, None), (1001, None), (True, 2), (0, True), (False, None),
              (0, False), (None, 0), (None, None), (0,), (0, 1, 2), [0, 1], "01", (0, "1"), ("0", 1), (0, (1,)),
              (0, [1]), {0: 1, 1: 2}, range(2), 0, None, (), (10 ** 11, None), (-(10 ** 11), 0), (0, 10 ** 11)]


def wrong_lists():
    found = [[bar] for bar in WRONG_BARS] + [((0, 1), bar) for bar in WRONG_BARS]
    found += [[(0, 1)] * 21, ((0, 1),) * 21, [None] * 21, {(0, 1): 0}, (0, 1), {}, range(0), "", b"", None, 0]
    odd = [thing for thing in more_odd_things() if thing not in ([], ())]
    return found + odd


def odd_numbers():
    return more_odd_things() + far_numbers() + [2001]


def is_long(bar, e):
    return bar[1] is None or bar[1] - bar[0] > 2 * e


def fits(bar, other, e):
    if (bar[1] is None) != (other[1] is None):
        return False
    gap = 0 if bar[1] is None else abs(bar[1] - other[1])
    return abs(bar[0] - other[0]) <= e and gap <= e


def every_pairing(one, other, e):
    """All of them, of few bars, as 10.1 says it: all ways tried."""
    found = []
    for many in range(min(len(one), len(other)) + 1):
        for firsts in combinations(range(len(one)), many):
            for seconds in permutations(range(len(other)), many):
                if all(fits(one[i], other[j], e) for i, j in zip(firsts, seconds)):
                    left = [bar for i, bar in enumerate(one) if i not in firsts]
                    left += [bar for j, bar in enumerate(other) if j not in seconds]
                    if not any(is_long(bar, e) for bar in left):
                        found.append(tuple(zip(firsts, seconds)))
    return found


def every_ban(one, other, e):
    found = []
    for side, bars, others in ((0, one, other), (1, other, one)):
        for many in range(len(bars) + 1):
            for lot in combinations(range(len(bars)), many):
                if all(is_long(bars[k], e) for k in lot):
                    if sum(any(fits(bars[k], bar, e) for k in lot) for bar in others) < many:
                        found.append((side, lot))
    return found


def mixed_bars(mixer, most, bound):
    found = []
    for _ in range(mixer.below(most + 1)):
        born = mixer.below(2 * bound) - bound
        gone = born + 1 + mixer.below(bound - born)
        found.append((born, None if mixer.below(5) == 0 else gone))
    return found


def some_lists(seed, many, most, bound):
    mixer = Mixer(seed)
    for number in range(many):
        one, other = mixed_bars(mixer, most, bound), mixed_bars(mixer, most, bound)
        if number % 3 == 0:
            other = [(born + mixer.below(2), gone) if gone is None or gone > born + 1 else (born, gone)
                     for born, gone in one][::-1]
        yield one, tuple(other)


class Both(Checks):

    def one_of_both(self, one, other, e):
        """The pairing and the ban, of which just one is there, and each judged to be one."""
        found = self.same_twice(pairing, one, other, e)
        told = self.same_twice(ban, one, other, e)
        self.assertNotEqual(found is None, told is None, (one, other, e))
        if found is not None:
            self.assertIs(is_pairing(one, other, e, found), True)
            self.assertIsInstance(found, tuple)
            for pair in found:
                self.assertEqual([item.__class__ for item in pair], [int, int])
                self.assertIsInstance(pair, tuple)
        else:
            self.assertIs(is_ban(one, other, e, told), True)
            self.assertEqual((told.__class__, told[0].__class__, told[1].__class__), (tuple, int, tuple))
        return found, told


class Few(Both, unittest.TestCase):

    def test_all_ways_tried(self):
        for one, other in some_lists(200, 300, 4, 5):
            for e in range(6):
                found, told = self.one_of_both(one, other, e)
                pairings, bans = every_pairing(one, other, e), every_ban(one, other, e)
                self.assertNotEqual(pairings == [], bans == [])
                self.assertIn(found, pairings or [None])
                self.assertIn(told, bans or [None])

    def test_each_thing_judged_by_the_words(self):
        for one, other in some_lists(201, 60, 3, 3):
            for e in range(3):
                pairs = [(i, j) for i in range(len(one) + 1) for j in range(len(other) + 1)]
                pairings = every_pairing(one, other, e)
                for many in range(4):
                    for thing in permutations(pairs, many) if many < 3 else combinations(pairs, many):
                        self.assertIs(is_pairing(one, other, e, thing), thing in pairings, (one, other, e, thing))
                bans = every_ban(one, other, e)
                for side in (0, 1, 2):
                    for many in range(4):
                        for lot in permutations(range(4), many):
                            self.assertIs(is_ban(one, other, e, (side, lot)), (side, lot) in bans)

    def test_lists_and_tuples_alike(self):
        for one, other in some_lists(202, 40, 4, 5):
            for e in (0, 2):
                told = [(pairing(a, b, e), ban(a, b, e), nearest(a, b))
                        for a in (list(one), tuple(one)) for b in (list(other), tuple(other))]
                self.assertEqual(told, told[:1] * 4)

    def test_no_bars(self):
        for e in (0, 1, 2000):
            self.assertEqual(self.one_of_both([], (), e), ((), None))
        self.assertEqual(nearest((), []), 0)
        self.assertIs(is_pairing([], [], 0, ()), True)
        self.assertIs(is_ban([], [], 0, (0, ())), False)
        self.assertIs(is_ban([], [], 0, (1, ())), False)

    def test_alike_bars(self):
        one = [(0, 10)] * 3
        self.assertEqual(sorted(j for i, j in pairing(one, one, 0)), [0, 1, 2])
        self.one_of_both(one, one[:2], 4)
        self.assertEqual(ban(one, one[:2], 4), (0, (0, 1, 2)))
        self.assertEqual(ban(one[:2], one, 4), (1, (0, 1, 2)))
        self.assertIsNotNone(pairing(one, one[:2], 5))
        self.assertEqual((nearest(one, one[:2]), nearest(one[:1], one)), (5, 5))

    def test_bars_without_a_gone(self):
        self.assertEqual(pairing([(0, None)], [(3, None)], 3), ((0, 0),))
        self.assertEqual(ban([(0, None)], [(3, None)], 2), (0, (0,)))
        self.assertEqual(ban([(0, None)], [], 2000), (0, (0,)))
        self.assertEqual(ban([], [(0, None)], 2000), (1, (0,)))
        self.assertEqual(ban([(0, None)], [(0, 1000)], 500), (0, (0,)))
        self.assertEqual(ban([(0, 1000)], [(0, None)], 500), (1, (0,)))
        self.assertIsNone(nearest([(0, None)], []))
        self.assertIsNone(nearest([(0, None)], [(0, 1000)]))
        self.assertEqual(nearest([(-1000, None)], [(1000, None)]), 2000)
        for many in range(1, 5):
            self.assertIsNone(nearest([(0, None)] * many, [(0, None)] * (many - 1)))

    def test_just_at_the_bounds(self):
        self.assertEqual(pairing([(0, 4)], [], 2), ())
        self.assertEqual(ban([(0, 5)], [], 2), (0, (0,)))
        self.assertEqual(pairing([(0, 10)], [(2, 12)], 2), ((0, 0),))
        self.assertIsNone(pairing([(0, 10)], [(2, 13)], 2))
        self.assertIsNone(pairing([(0, 10)], [(3, 12)], 2))
        self.assertIsNotNone(ban([(0, 10)], [(-3, 10)], 2))

    def test_a_short_bar_gives_way_to_a_long_one(self):
        one = [(0, 20), (0, 21)]
        other = [(0, 19), (9, 22), (1, 20)]
        for e in range(12):
            self.one_of_both(one, other, e)
        # The first side takes a short bar of the second one; a long one then needs its partner.
        one, other = [(0, 5)], [(1, 3), (0, 6)]
        self.assertEqual(self.one_of_both(one, other, 2)[0], ((0, 1),))
        self.assertEqual(self.one_of_both(one, other[::-1], 2)[0], ((0, 0),))

    def test_e09(self):
        self.assertEqual(pairing([(0, 4)], [(1, 4)], 1), ((0, 0),))
        self.assertEqual(ban([(0, 4)], [], 1), (0, (0,)))
        self.assertEqual(nearest([(0, 4)], []), 2)


class Many(Both, unittest.TestCase):

    def test_twenty_bars(self):
        for one, other in some_lists(203, 60, 20, 1000):
            one = (one + [(k - 1000, k * 90 - 800) for k in range(20)])[:20]
            other = (list(other) + [(k - 990, k * 91 - 805) for k in range(20)])[:20]
            for e in (0, 1, 7, 30, 150, 500, 1000, 1999, 2000):
                self.one_of_both(one, other, e)
                self.one_of_both(one, one[::-1], e)

    def test_twenty_bars_of_which_many_fit(self):
        for one, other in some_lists(204, 150, 20, 12):
            for e in (0, 1, 2, 3, 5):
                self.one_of_both(one, other, e)

    def test_edges_of_the_bounds(self):
        self.assertEqual(len(self.one_of_both(TWENTY, tuple(TWENTY), 0)[0]), 20)
        self.assertIsNone(pairing(TWENTY, [], 999))
        self.assertEqual(pairing(TWENTY, [], 1000), ())
        self.assertEqual((nearest(TWENTY, []), nearest([], TWENTY), nearest(TWENTY, TWENTY)), (1000, 1000, 0))
        self.assertEqual(nearest([(-1000, None)] * 20, [(1000, None)] * 20), 2000)
        self.assertIs(is_pairing([(-1000, None)], [(1000, None)], 2000, ((0, 0),)), True)
        self.assertIs(is_pairing([(-1000, None)], [(1000, None)], 1999, ((0, 0),)), False)
        self.assertIs(is_ban([(-1000, None)], [(1000, None)], 1999, (1, (0,))), True)

    def test_nearest_is_the_least(self):
        for seed, most, bound, many in ((205, 4, 9, 150), (206, 20, 1000, 60), (207, 20, 40, 60)):
            for one, other in some_lists(seed, many, most, bound):
                least = self.same_twice(nearest, one, other)
                endless = [sum(gone is None for born, gone in bars) for bars in (one, other)]
                self.assertEqual(least is None, endless[0] != endless[1])
                if least is None:
                    self.assertIsNone(pairing(one, other, 2000))
                    continue
                self.assertIs(least.__class__, int)
                self.assertEqual(nearest(other, one), least)
                self.assertIsNotNone(pairing(one, other, least))
                for e in range(max(0, least - 3), least):
                    self.assertIsNone(pairing(one, other, e))
                for e in range(0, least, max(1, least // 7)):
                    self.assertIsNotNone(ban(one, other, e))
                for e in (least + 1, least * 2, 2000):
                    self.assertIsNotNone(pairing(one, other, min(2000, e)))


class Judged(Checks, unittest.TestCase):

    def setUp(self):
        self.one = [(0, 10), (0, 10), (5, 6)]
        self.other = ((1, 9), (0, 11), (5, None))
        self.other_short = self.other[:2]

    def test_pairings_spoilt(self):
        one, other = self.one, self.other_short
        self.assertIs(is_pairing(one, other, 1, ((0, 0), (1, 1))), True)
        self.assertIs(is_pairing(one, other, 1, ((0, 1), (1, 0))), True)
        wrong = [((1, 1), (0, 0)), ((0, 0), (0, 1)), ((0, 0), (1, 0)), ((0, 0),), ((1, 1),), (), ((0, 0), (0, 0)),
                 ((0, 0), (1, 1), (2, 1)), ((0, 0), (1, 1), (2, 2)), ((0, 0), (1, 1), (3, 0)), ((0, 0), (1, 2)),
                 ((0, 0), (1, -1)), ((-1, 0), (1, 1)), [(0, 0), (1, 1)], ([0, 0], (1, 1)), ((0, 0), [1, 1]),
                 ((0, False), (1, True)), ((False, 0), (1, 1)), ((0, 0), (True, 1)), ((0, 0, 0), (1, 1, 1)),
                 ((0, 0), (1,)), (0, 0), ((0, 0), (1, 10 ** 11)), ((0, 0), (1, None)), ((0, "0"), (1, 1)),
                 {(0, 0): 1, (1, 1): 1}, ((0, 0), (1, 1), None), "01", (((0, 0), (1, 1)),)]
        for thing in wrong:
            self.assertIs(is_pairing(one, other, 1, thing), False, thing)
        self.assertIs(is_pairing(one, other, 0, ((0, 0), (1, 1))), False)
        for side in ([(0, 10), (0, 10)], [(5, 6), (0, 10), (0, 10)]):
            self.assertIs(is_pairing(side, other, 1, ((0, 0), (1, 1))), len(side) == 2)

    def test_bars_left_over_that_are_too_long(self):
        self.assertIs(is_pairing([(0, 3)], [(0, 3)], 1, ()), False)
        self.assertIs(is_pairing([(0, 2)], [(0, 2)], 1, ()), True)
        self.assertIs(is_pairing([(0, 2)], [(0, 3)], 1, ()), False)
        self.assertIs(is_pairing([(0, 3)], [], 1, ()), False)
        self.assertIs(is_pairing([], [(0, None)], 2000, ()), False)
        self.assertIs(is_pairing([(0, None)], [], 2000, ()), False)

    def test_bans_spoilt(self):
        one, other = self.one, self.other
        self.assertEqual(ban(one, other, 1), (1, (2,)))
        self.assertIs(is_ban(one, other, 1, (1, (2,))), True)
        # Both long bars of the one side have the first of the other alone, or more of it.
        one = [(0, 10), (0, 12), (5, 6), (0, 11)]
        other = ((0, 11), (5, 7))
        for thing in ((0, (0, 1)), (0, (0, 3)), (0, (1, 3)), (0, (0, 1, 3))):
            self.assertIs(is_ban(one, other, 1, thing), True)
        wrong = [(0, (1, 0)), (0, (0, 0)), (0, (0,)), (0, (0, 2)), (0, (0, 1, 2)), (0, (0, 4)), (0, (-1, 0, 1)),
                 (1, (0, 1)), (1, (0,)), (2, (0, 1)), (-1, (0, 1)), (False, (0, 1)), (None, (0, 1)), ("0", (0, 1)),
                 (0, [0, 1]), [0, (0, 1)], (0, (0, True)), (0, (False, 1)), (0, (0, "1")), (0, (0, None)), (0,),
                 (0, (0, 1), ()), (0, 0, 1), (0, ()), (0, 1), (0, ((0, 1),)), {0: (0, 1)}, (0, {0: 0, 1: 1}),
                 (0, (0, 10 ** 11)), (0, range(2)), (0, "01"), (0, b"01")]
        for thing in wrong:
            self.assertIs(is_ban(one, other, 1, thing), False, thing)
        self.assertIs(is_ban(other, one, 1, (1, (0, 1))), True)
        self.assertIs(is_ban(other, one, 1, (True, (0, 1))), False)
        self.assertIs(is_ban(other, one, 1, (0, (0, 1))), False)
        self.assertIs(is_ban(one, other, 2, (0, (0, 1))), True)
        self.assertIs(is_ban(one, other, 5, (0, (0, 1))), False)

    def test_odd_things(self):
        for thing in more_odd_things() + far_numbers() + [[bar] for bar in WRONG_BARS]:
            self.assertIs(is_pairing(self.one, self.other_short, 1, thing), False)
            self.assertIs(is_ban(self.one, self.other, 1, thing), False)
            self.assertIs(is_ban(self.one, self.other, 1, (1, thing)), False)
            self.assertIs(is_ban(self.one, self.other, 1, (thing, (2,))), False)
            self.assertIs(is_pairing(self.one, self.other_short, 1, ((0, 0), thing)), False)
            self.assertIs(is_pairing(self.one, self.other_short, 1, ((0, 0), (1, thing))), False)
            self.assertIs(is_pairing(self.one, self.other_short, 1, ((0, 0), (thing, 1))), False)
        for thing in more_odd_things() + far_numbers():
            self.assertIs(is_pairing([], [], 1, thing), isinstance(thing, tuple) and len(thing) == 0)


class Errors(Checks, unittest.TestCase):

    def four(self):
        return [lambda a, b, e: pairing(a, b, e), lambda a, b, e: ban(a, b, e),
                lambda a, b, e: is_pairing(a, b, e, None), lambda a, b, e: is_ban(a, b, e, None)]

    def test_no_bars_for_either(self):
        for call in self.four():
            for thing in wrong_lists():
                self.raises("NoBars", call, thing, [(0, 1)], 0)
                self.raises("NoBars", call, [(0, 1)], thing, 0)
                self.raises("NoBars", call, thing, [], -1)
                self.raises("NoBars", call, (), thing, None)
                self.raises("NoBars", call, thing, thing, thing)
        for thing in wrong_lists():
            self.raises("NoBars", nearest, thing, [(0, 1)])
            self.raises("NoBars", nearest, [(0, 1)], thing)
            self.raises("NoBars", nearest, thing, thing)

    def test_the_edges_are_bar_lists(self):
        for bars in (TWENTY, tuple(TWENTY), [(999, 1000), (-1000, None), (1000, None), (-1000, -999)]):
            for call in self.four():
                call(bars, bars, 0)
                call(bars, bars, 2000)
            self.assertEqual(nearest(bars, bars), 0)

    def test_no_number(self):
        for call in self.four():
            for thing in odd_numbers():
                self.raises("NoNumber", call, [(0, 1)], (), thing)
                self.raises("NoNumber", call, [], [(0, None)], thing)
            for e in (0, 1, 2000):
                call([(0, 1)], [], e)

    def test_judged_last(self):
        for thing in more_odd_things():
            for judge in (is_pairing, is_ban):
                self.raises("NoBars", judge, [(0, 0)], [], 0, thing)
                self.raises("NoBars", judge, [], [(0, 0)], 0, thing)
                self.raises("NoNumber", judge, [], [], 2001, thing)


if __name__ == "__main__":
    unittest.main()
