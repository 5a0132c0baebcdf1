"""3.3: leadings, behind, back."""

import unittest
from itertools import product

from mapwebs.leadings import back, behind, is_leading, leadings, many_leadings
from mapwebs.pictures import Picture, based, beside
from mapwebs.tables import Table, nought, plain, plus, scaled, times, undone
from mapwebs.webs import Web, line
from samples import PRIMES, Checks, Mixer, far_numbers, is_reduced, span, tables
from test_pictures import FORK, RING, mixed_picture, more_odd_things, some_webs


def as_row(leading):
    return tuple(worth for table in leading for row in table.rows for worth in row)


def goes_along(one, other, leading):
    """As 3.3 says it, with plain sums."""
    for k, (a, b) in enumerate(one.web.arrows):
        t, u = one.tables[k].rows, other.tables[k].rows
        for i in range(other.sizes[b]):
            for j in range(one.sizes[a]):
                left = sum(leading[b].rows[i][m] * t[m][j] for m in range(one.sizes[b]))
                right = sum(u[i][m] * leading[a].rows[m][j] for m in range(other.sizes[a]))
                if (left - right) % one.prime:
                    return False
    return True


def all_tuples(one, other):
    return product(*[tables(one.prime, high, wide) for wide, high in zip(one.sizes, other.sizes)])


def unlike_pairs():
    one = Picture(line(">"), 3, (1, 1), (plain(3, 1),))
    others = [Picture(line("<"), 3, (1, 1), (plain(3, 1),)), Picture(line(">"), 2, (1, 1), (plain(2, 1),)),
              Picture(Web(2, ()), 3, (1, 1), ()), Picture(line(""), 3, (1,), ()),
              Picture(Web(3, ((0, 1),)), 3, (1, 1, 0), (plain(3, 1),)),
              Picture(Web(2, ((0, 1), (0, 1))), 3, (1, 1), (plain(3, 1), plain(3, 1)))]
    return [(one, other) for other in others] + [(other, one) for other in others]


class Spanning(Checks, unittest.TestCase):

    def small_pairs(self):
        mixer = Mixer(40)
        for prime, web, most, rounds in ((2, line(">"), 2, 40), (3, line(">"), 1, 20), (2, Web(1, ((0, 0),)), 3, 12),
                                         (3, Web(1, ((0, 0),)), 2, 20), (2, RING, 2, 40), (3, RING, 1, 20),
                                         (2, line("><"), 1, 20), (2, Web(2, ((0, 1), (0, 1))), 2, 30),
                                         (5, Web(1, ((0, 0), (0, 0))), 1, 10), (13, line("<"), 1, 6),
                                         (2, Web(3, ()), 1, 5), (7, Web(1, ()), 1, 3), (11, RING, 1, 6)):
            for _ in range(rounds):
                one, other = mixed_picture(mixer, web, prime, most), mixed_picture(mixer, web, prime, most)
                if sum(a * b for a, b in zip(one.sizes, other.sizes)) * prime <= 18:
                    yield one, other
                if sum(a * a for a in one.sizes) * prime <= 18:
                    yield one, one

    def test_all_tuples_of_tables_gone_through(self):
        seen = 0
        for one, other in self.small_pairs():
            right = {as_row(thing) for thing in all_tuples(one, other) if goes_along(one, other, thing)}
            found = self.same_twice(leadings, one, other)
            self.assertIsInstance(found, list)
            rows = [as_row(thing) for thing in found]
            self.assertTrue(is_reduced(rows))
            length = sum(a * b for a, b in zip(one.sizes, other.sizes))
            self.assertEqual(span(one.prime, length, rows), right)
            self.assertEqual(many_leadings(one, other), len(found))
            for thing in found:
                self.assertIsInstance(thing, tuple)
                for table, wide, high in zip(thing, one.sizes, other.sizes):
                    self.assertEqual((table.prime, table.wide, table.high), (one.prime, wide, high))
            for thing in all_tuples(one, other):
                self.assertIs(is_leading(one, other, thing), as_row(thing) in right)
            seen += 1
        self.assertGreater(seen, 200)

    def test_larger_ones(self):
        mixer = Mixer(41)
        for prime in PRIMES:
            for web in some_webs():
                one, other = mixed_picture(mixer, web, prime, 6), mixed_picture(mixer, web, prime, 6)
                found = leadings(one, other)
                self.assertTrue(is_reduced([as_row(thing) for thing in found]))
                for thing in found:
                    self.assertTrue(goes_along(one, other, thing))
                    self.assertTrue(is_leading(one, other, thing))
                # Those that there are by the way the pictures were made are among them.
                bases = tuple(mixer.regular(prime, size) for size in one.sizes)
                self.assertEqual(many_leadings(one, other), many_leadings(based(one, bases), other))
                self.assertEqual(len(found), many_leadings(one, other))
                double = beside(web, prime, [one, other])
                self.assertEqual(many_leadings(double, one), many_leadings(one, one) + many_leadings(other, one))

    def test_without_arrows_all_tables_lead(self):
        web = Web(3, ())
        one, other = Picture(web, 5, (2, 0, 1), ()), Picture(web, 5, (3, 4, 1), ())
        self.assertEqual(many_leadings(one, other), 7)
        self.assertEqual([as_row(thing) for thing in leadings(one, other)],
                         [(0,) * k + (1,) + (0,) * (6 - k) for k in range(7)])
        empty = Picture(web, 5, (0, 0, 0), ())
        self.assertEqual(leadings(empty, one), [])
        self.assertEqual(leadings(empty, empty), [])
        self.assertEqual(leadings(one, empty), [])
        self.assertTrue(is_leading(one, empty, (nought(5, 0, 2), nought(5, 0, 0), nought(5, 0, 1))))

    def test_lists_are_new(self):
        one = Picture(line(">"), 3, (1, 1), (plain(3, 1),))
        found = leadings(one, one)
        found.append(None)
        found[0] = None
        self.assertEqual(leadings(one, one), [(plain(3, 1), plain(3, 1))])
        self.assertIsNot(leadings(one, one), leadings(one, one))

    def test_other_web(self):
        for one, other in unlike_pairs():
            self.raises("OtherWeb", leadings, one, other)
            self.raises("OtherWeb", many_leadings, one, other)
            for thing in (None, (), (plain(3, 1), plain(3, 1)), (plain(2, 1), plain(2, 1))):
                self.raises("OtherWeb", is_leading, one, other, thing)

    def test_e03(self):
        one = Table(2, 1, ((1,),))
        picture = Picture(Web(3, ((0, 1), (2, 1))), 2, (1, 1, 1), (one, one))
        self.assertEqual(many_leadings(picture, picture), 1)


class Judged(Checks, unittest.TestCase):

    def test_odd_things_are_none(self):
        mixer = Mixer(42)
        for web in (RING, FORK, Web(1, ())):
            one = mixed_picture(mixer, web, 3, sizes=(2, 1, 3, 1)[:web.many])
            for thing in more_odd_things() + far_numbers():
                self.assertIs(self.same_twice(is_leading, one, one, thing), False)
                self.assertIs(is_leading(one, one, (thing,) * web.many), False)

    def test_one_worth_otherwise(self):
        mixer = Mixer(43)
        spoilt = kept = 0
        for prime in (2, 3, 7):
            for web in (line(">>"), RING, FORK):
                one, other = mixed_picture(mixer, web, prime, 3), mixed_picture(mixer, web, prime, 3)
                for thing in leadings(one, other):
                    self.assertIs(is_leading(one, other, thing), True)
                    for k, table in enumerate(thing):
                        for i in range(table.high):
                            for j in range(table.wide):
                                rows = [list(row) for row in table.rows]
                                rows[i][j] = (rows[i][j] + 1) % prime
                                changed = Table(prime, table.wide, tuple(tuple(row) for row in rows))
                                there = thing[:k] + (changed,) + thing[k + 1:]
                                expected = goes_along(one, other, there)
                                self.assertIs(is_leading(one, other, there), expected)
                                spoilt, kept = spoilt + (not expected), kept + expected
        self.assertGreater(spoilt, 50)

    def test_of_the_wrong_form(self):
        one = Picture(RING, 3, (2, 1), (nought(3, 1, 2), nought(3, 2, 1), nought(3, 1, 1)))
        good = (plain(3, 2), plain(3, 1))
        self.assertIs(is_leading(one, one, good), True)
        for thing in [list(good), good[:1], good[1:], good + good[:1], good[::-1], (plain(2, 2), plain(2, 1)),
                      (plain(3, 2), plain(2, 1)), (plain(2, 2), plain(3, 1)), (nought(3, 2, 1), plain(3, 1)),
                      (nought(3, 1, 2), plain(3, 1)), (nought(3, 3, 2), plain(3, 1)), (plain(3, 2), nought(3, 1, 0)),
                      (plain(3, 2).rows, plain(3, 1).rows), (plain(3, 2), None), (None, plain(3, 1)), None, (),
                      {0: good[0], 1: good[1]}, (good,), good[0]]:
            self.assertIs(self.same_twice(is_leading, one, one, thing), False)
        empty = Picture(RING, 3, (0, 0), (nought(3, 0, 0),) * 3)
        self.assertIs(is_leading(empty, empty, (nought(3, 0, 0),) * 2), True)
        self.assertIs(is_leading(empty, empty, (nought(2, 0, 0),) * 2), False)
        self.assertIs(is_leading(one, empty, (nought(3, 0, 2), nought(3, 0, 1))), True)
        self.assertIs(is_leading(one, empty, (nought(3, 2, 0), nought(3, 1, 0))), False)

    def test_sums_and_what_is_behind_one_another(self):
        mixer = Mixer(44)
        for prime in (2, 3, 13):
            for web in some_webs():
                one, other = mixed_picture(mixer, web, prime), mixed_picture(mixer, web, prime)
                third = mixed_picture(mixer, web, prime)
                for first in leadings(one, other)[:3]:
                    for second in leadings(other, third)[:3]:
                        self.assertTrue(is_leading(one, third, behind(first, second)))
                    total = tuple(plus(table, scaled(table, 5)) for table in first)
                    self.assertTrue(is_leading(one, other, total))


class BehindAndBack(Checks, unittest.TestCase):

    def test_behind(self):
        mixer = Mixer(45)
        for prime in PRIMES:
            for shapes in ((), ((1, 2, 3),), ((0, 2, 1), (2, 0, 3), (4, 4, 0)), ((12, 12, 12),) * 8):
                first = tuple(mixer.table(prime, middle, wide) for wide, middle, high in shapes)
                second = tuple(mixer.table(prime, high, middle) for wide, middle, high in shapes)
                self.assertEqual(self.same_twice(behind, first, second),
                                 tuple(times(second[k], first[k]) for k in range(len(shapes))))

    def test_behind_refuses(self):
        good = (nought(3, 2, 1), plain(3, 2))
        fits = (nought(3, 3, 2), plain(3, 2))
        self.assertEqual(behind(good, fits), (nought(3, 3, 1), plain(3, 2)))
        self.assertEqual(behind((), ()), ())
        for thing in more_odd_things() + far_numbers():
            if not (isinstance(thing, tuple) and len(thing) == 0):
                self.raises("NoLeading", behind, thing, fits)
                self.raises("NoLeading", behind, good, thing)
                self.raises("NoLeading", behind, thing, thing) if not all_tables(thing) else None
                self.raises("NoLeading", behind, (thing,), (thing,)) if not isinstance(thing, Table) else None
                self.raises("NoLeading", behind, (), thing)
        for first, second in [(good, fits[:1]), (good[:1], fits), (good, ()), ((), fits), (list(good), fits),
                              (good, list(fits)), (fits, good), (good, (plain(3, 2), plain(3, 1))),
                              (good, (plain(2, 2), plain(2, 2))), (good, (plain(3, 2), plain(2, 2))),
                              (good, (plain(3, 2), None)), ((plain(3, 0),), (plain(2, 0),)),
                              ((good[0], None), (fits[0], None)), (good, (plain(3, 2), nought(3, 2, 3)))]:
            self.raises("NoLeading", behind, first, second)

    def test_back(self):
        mixer = Mixer(46)
        for prime in PRIMES:
            for sizes in ((), (0,), (1,), (3, 0, 2), (12,) * 3):
                leading = tuple(mixer.regular(prime, size) for size in sizes)
                found = self.same_twice(back, leading)
                self.assertEqual(found, tuple(undone(table) for table in leading))
                self.assertEqual(behind(leading, found), tuple(plain(prime, size) for size in sizes))
                for flat in (nought(prime, 1, 1), nought(prime, 0, 1), nought(prime, 2, 1)):
                    self.assertIsNone(back(leading + (flat,)))
                    self.assertIsNone(back((flat,) + leading))
        self.assertEqual(back((plain(2, 1), plain(3, 1))), (plain(2, 1), plain(3, 1)))

    def test_back_refuses(self):
        for thing in more_odd_things() + far_numbers() + [[plain(2, 1)], (plain(2, 1), None), ((plain(2, 1),),)]:
            if not all_tables(thing):
                self.raises("NoLeading", back, thing)
                self.raises("NoLeading", back, (thing, plain(2, 1))) if not isinstance(thing, Table) else None
                self.raises("NoLeading", back, (nought(2, 1, 1), thing)) if not isinstance(thing, Table) else None


def all_tables(thing):
    return isinstance(thing, tuple) and all(isinstance(table, Table) for table in thing)


if __name__ == "__main__":
    unittest.main()
