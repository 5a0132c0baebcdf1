"""3.2 and 3.4: pictures, beside, based."""

import unittest

from mapwebs.leadings import back, is_leading
from mapwebs.pictures import Picture, based, beside
from mapwebs.tables import Table, corner, nought, plain, times, undone
from mapwebs.webs import Web, line
from samples import PRIMES, Checks, Mixer, far_numbers, odd_things

RING = Web(2, ((0, 1), (1, 0), (1, 1)))
FORK = Web(4, ((0, 1), (2, 1), (1, 3), (0, 1)))


def some_webs():
    return [Web(1, ()), Web(3, ()), line(">"), line("<>"), RING, FORK, Web(1, ((0, 0),) * 12),
            Web(8, tuple((k, (k + 1) % 8) for k in range(8)))]


def mixed_picture(mixer, web, prime, most=3, sizes=None):
    if sizes is None:
        sizes = tuple(mixer.below(most + 1) for _ in range(web.many))
    return Picture(web, prime, sizes, tuple(mixer.table(prime, sizes[b], sizes[a]) for a, b in web.arrows))


def more_odd_things():
    return odd_things() + [Web(2, ((0, 1),)), Picture(Web(1, ()), 2, (0,), ()), (Picture(Web(1, ()), 5, (0,), ()),)]


class Construction(Checks, unittest.TestCase):

    def test_attributes(self):
        tables = (Table(3, 2, ((1, 2),)), nought(3, 2, 1), plain(3, 1))
        picture = Picture(RING, 3, (2, 1), tables)
        self.assertEqual((picture.web, picture.prime, picture.sizes, picture.tables), (RING, 3, (2, 1), tables))
        self.assertEqual(sorted(vars(picture)), ["prime", "sizes", "tables", "web"])

    def test_edges_that_are_right(self):
        for prime in PRIMES:
            for web in some_webs():
                for size in (0, 1, 6):
                    tables = (nought(prime, size, size),) * len(web.arrows)
                    self.assertEqual(Picture(web, prime, (size,) * web.many, tables).tables, tables)

    def test_odd_webs_and_primes(self):
        for thing in more_odd_things() + far_numbers():
            if not isinstance(thing, Web):
                self.raises("BadPicture", Picture, thing, 2, (1,), (), part="web")
                self.raises("BadPicture", Picture, thing, thing, thing, thing, part="web")
        for thing in more_odd_things() + far_numbers() + [0, 1, 4, 14]:
            self.raises("BadPicture", Picture, Web(1, ()), thing, (1,), (), part="prime")
            self.raises("BadPicture", Picture, Web(1, ()), thing, thing, thing, part="prime")

    def test_odd_sizes(self):
        wrong = [(), (1,), (1, 1, 1), [1, 1], (1, 7), (7, 1), (-1, 1), (1, True), (False, 1), (1, None), (1, "1"),
                 (1, (1,)), "11", b"11", {0: 1, 1: 1}, range(2), (10 ** 11, 1)]
        tables = (nought(2, 1, 1),) * 3
        for thing in wrong + more_odd_things() + far_numbers():
            self.raises("BadPicture", Picture, RING, 2, thing, tables, part="sizes")
            self.raises("BadPicture", Picture, RING, 2, thing, thing, part="sizes")

    def test_odd_tables(self):
        one = nought(2, 1, 1)
        for thing in [(), (one,), (one,) * 2, (one,) * 4, [one] * 3, {0: one}, one, (one, 0)]:
            self.raises("BadPicture", Picture, RING, 2, (1, 1), thing, part="tables")
        for thing in more_odd_things() + far_numbers():
            if isinstance(thing, tuple) and len(thing) == 3:
                self.raises("BadPicture", Picture, RING, 2, (1, 1), thing, part=0)
            else:
                self.raises("BadPicture", Picture, RING, 2, (1, 1), thing, part="tables")
        self.raises("BadPicture", Picture, Web(1, ()), 2, (1,), [], part="tables")

    def test_the_first_table_that_is_none(self):
        sizes = (2, 1)
        good = (nought(3, 1, 2), nought(3, 2, 1), nought(3, 1, 1))
        for at in range(3):
            high, wide = good[at].high, good[at].wide
            wrong = [nought(2, high, wide), nought(3, high + 1, wide), nought(3, high, wide + 1),
                     nought(3, high, wide - 1), nought(3, high - 1, wide), good[at].rows, [good[at]], (good[at],)]
            if high != wide:
                wrong.append(nought(3, wide, high))
            for thing in wrong + odd_things()[:-3] + [Web(1, ()), None]:
                if not (isinstance(thing, Table) and thing.prime == 3 and (thing.high, thing.wide) == (high, wide)):
                    self.raises("BadPicture", Picture, RING, 3, sizes, good[:at] + (thing,) + good[at + 1:], part=at)
                    self.raises("BadPicture", Picture, RING, 3, sizes, good[:at] + (thing,) * (3 - at), part=at)
        self.assertEqual(Picture(RING, 3, sizes, good).tables, good)
        big = corner(nought(2, 6, 6), nought(2, 1, 1))
        self.raises("BadPicture", Picture, line(">"), 2, (6, 6), (big,), part=0)

    def test_a_picture_is_equal_to_its_like_alone(self):
        one = Picture(line(">"), 3, (1, 1), (plain(3, 1),))
        self.assertEqual(one, Picture(line(">"), 3, (1, 1), (plain(3, 1),)))
        self.assertFalse(one != Picture(line(">"), 3, (1, 1), (plain(3, 1),)))
        for other in [Picture(line("<"), 3, (1, 1), (plain(3, 1),)), Picture(line(">"), 5, (1, 1), (plain(5, 1),)),
                      Picture(line(">"), 3, (1, 0), (nought(3, 0, 1),)), plain(3, 1), line(">"),
                      Picture(line(">"), 3, (1, 1), (nought(3, 1, 1),)), (line(">"), 3, (1, 1), (plain(3, 1),)),
                      ] + odd_things():
            self.assertFalse(one == other)
            self.assertFalse(other == one)
            self.assertTrue(one != other)
        empties = [Picture(Web(1, ()), prime, (0,), ()) for prime in PRIMES]
        for one in empties:
            self.assertEqual(sum(one == other for other in empties), 1)
        self.assertNotEqual(Picture(Web(2, ()), 2, (1, 0), ()), Picture(Web(2, ()), 2, (1, 1), ()))
        self.assertIn("__eq__", vars(Picture))


class Beside(Checks, unittest.TestCase):

    def test_sizes_and_tables(self):
        mixer = Mixer(30)
        for prime in PRIMES:
            for web in some_webs():
                for many in (0, 1, 2, 3, 12):
                    pictures = [mixed_picture(mixer, web, prime) for _ in range(many)]
                    found = self.same_twice(beside, web, prime, pictures)
                    self.assertEqual(beside(web, prime, tuple(pictures)), found)
                    self.assertEqual((found.web, found.prime), (web, prime))
                    self.assertEqual(found.sizes, tuple(sum(picture.sizes[place] for picture in pictures)
                                                        for place in range(web.many)))
                    for at in range(len(web.arrows)):
                        table = nought(prime, 0, 0)
                        for picture in pictures:
                            table = corner(table, picture.tables[at])
                        self.assertEqual(found.tables[at], table)
                    if many == 1:
                        self.assertEqual(found, pictures[0])

    def test_none(self):
        self.assertEqual(beside(RING, 5, ()), Picture(RING, 5, (0, 0), (nought(5, 0, 0),) * 3))
        self.assertEqual(beside(RING, 5, []), beside(RING, 5, ()))

    def test_results_may_be_passed_on(self):
        one = Picture(RING, 3, (6, 5), (nought(3, 5, 6), nought(3, 6, 5), plain(3, 5)))
        twelve = beside(RING, 3, [one] * 12)
        self.assertEqual(twelve.sizes, (72, 60))
        self.assertEqual(beside(RING, 3, [twelve, one]).sizes, (78, 65))
        self.assertTrue(is_leading(twelve, twelve, based_on_plain(twelve)))

    def test_refusals(self):
        one = Picture(RING, 3, (0, 0), (nought(3, 0, 0),) * 3)
        for thing in more_odd_things() + far_numbers() + [0, 1, 4, 14]:
            self.raises("NoPrime", beside, RING, thing, ())
            self.raises("NoPrime", beside, RING, thing, thing)
        for thing in more_odd_things() + far_numbers() + [one, [one] * 13, (one,) * 13, {0: one}, [one, None]]:
            if not (isinstance(thing, (list, tuple)) and len(thing) == 0):
                self.raises("NoPictures", beside, RING, 3, thing)
                if thing is not one:
                    self.raises("NoPictures", beside, RING, 3, [one, thing])
        self.assertEqual(beside(RING, 3, [one] * 12), one)
        others = [Picture(RING, 5, (0, 0), (nought(5, 0, 0),) * 3), Picture(Web(2, ()), 3, (0, 0), ()),
                  Picture(Web(2, RING.arrows[::-1]), 3, (0, 0), (nought(3, 0, 0),) * 3), nought(3, 0, 0), RING]
        for other in others:
            for pictures in ([other], [one, other], (other, one), [one] * 11 + [other]):
                self.raises("NoPictures", beside, RING, 3, pictures)


def based_on_plain(picture):
    """The leading that leads each column to itself, summed up from small tables."""
    found = []
    for size in picture.sizes:
        table = nought(picture.prime, 0, 0)
        for _ in range(size):
            table = corner(table, plain(picture.prime, 1))
        found.append(table)
    return tuple(found)


class Based(Checks, unittest.TestCase):

    def test_the_tables_are_a_leading_to_it(self):
        mixer = Mixer(31)
        for prime in PRIMES:
            for web in some_webs():
                for most in (1, 3, 6):
                    picture = mixed_picture(mixer, web, prime, most)
                    tables = tuple(mixer.regular(prime, size) for size in picture.sizes)
                    found = self.same_twice(based, picture, tables)
                    self.assertEqual((found.web, found.prime, found.sizes), (web, prime, picture.sizes))
                    for (begin, end), old, new in zip(web.arrows, picture.tables, found.tables):
                        self.assertEqual(times(tables[end], old), times(new, tables[begin]))
                    self.assertTrue(is_leading(picture, found, tables))
                    self.assertEqual(based(found, back(tables)), picture)
                    plains = tuple(plain(prime, size) for size in picture.sizes)
                    self.assertEqual(based(picture, plains), picture)

    def test_larger_ones(self):
        mixer = Mixer(32)
        one = mixed_picture(mixer, RING, 3, sizes=(4, 5))
        double = beside(RING, 3, [one, one, one])
        tables = tuple(corner(corner(mixer.regular(3, size), mixer.regular(3, size)), mixer.regular(3, size))
                       for size in (4, 5))
        self.assertEqual(based(based(double, tables), tuple(undone(table) for table in tables)), double)

    def test_no_bases(self):
        picture = Picture(RING, 3, (2, 1), (nought(3, 1, 2), nought(3, 2, 1), plain(3, 1)))
        good = (plain(3, 2), plain(3, 1))
        for thing in more_odd_things() + far_numbers():
            self.raises("NoBases", based, picture, thing)
        for thing in [(), good[:1], good + good[:1], good[::-1], list(good), {0: good[0], 1: good[1]}, good[0]]:
            self.raises("NoBases", based, picture, thing)
        wrong = [(plain(3, 1), plain(3, 1)), (plain(3, 2), plain(3, 2)), (plain(2, 2), plain(3, 1)),
                 (plain(3, 2), plain(2, 1)), (nought(3, 2, 2), plain(3, 1)), (plain(3, 2), nought(3, 1, 1)),
                 (nought(3, 1, 2), plain(3, 1)), (nought(3, 2, 1), plain(3, 1)),
                 (Table(3, 2, ((1, 2), (2, 1))), plain(3, 1)), (good[0].rows, good[1]), (plain(3, 2), None)]
        for thing in wrong:
            self.raises("NoBases", based, picture, thing)
        for thing in odd_things():
            if not isinstance(thing, Table):
                self.raises("NoBases", based, picture, (plain(3, 2), thing))
            self.raises("NoBases", based, picture, (thing, plain(3, 1)))
        empty = Picture(Web(2, ()), 2, (0, 0), ())
        self.assertEqual(based(empty, (plain(2, 0), plain(2, 0))), empty)
        self.raises("NoBases", based, empty, (plain(2, 0), plain(3, 0)))


if __name__ == "__main__":
    unittest.main()
