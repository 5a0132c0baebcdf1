"""6.1: families of pieces of webs that are not finite."""

import unittest

from mapwebs.families import family
from mapwebs.forms import endless
from mapwebs.leadings import many_leadings
from mapwebs.pictures import Picture
from mapwebs.seals import is_piece
from mapwebs.webs import Web, line
from samples import PRIMES, Checks, Mixer, far_numbers
from test_finite import small_finite_webs
from test_forms import arms, mixed_web, random_webs
from test_pictures import more_odd_things


def endless_webs():
    return [Web(1, ((0, 0),)), Web(1, ((0, 0),) * 3), Web(2, ((0, 1), (0, 1))), Web(2, ((0, 1), (1, 0))),
            Web(2, ((0, 1),) * 4), Web(3, ((0, 1), (1, 2), (2, 0))), Web(3, ((0, 1), (1, 2), (0, 2))),
            Web(8, tuple((k, (k + 1) % 8) for k in range(8))), arms(1, 1, 1, 1), arms(2, 2, 2), arms(1, 3, 3),
            arms(1, 1, 1, 1, 1), arms(2, 2, 3), arms(1, 1, 2, 3), arms(1, 2, 2, 2),
            Web(6, ((0, 1), (2, 1), (1, 3), (3, 4), (3, 5))),
            Web(8, ((0, 1), (2, 1), (1, 3), (3, 4), (4, 5), (5, 6), (5, 7))),
            Web(4, ((0, 1), (0, 2), (0, 3), (1, 2), (1, 3), (2, 3))), Web(3, ((0, 1), (1, 2), (2, 2))),
            Web(5, ((0, 1), (1, 2), (2, 3), (3, 1), (4, 4))), Web(6, ((0, 1), (2, 3), (3, 2), (4, 5), (5, 4))),
            Web(8, ((5, 1), (2, 1), (1, 3), (3, 4), (4, 0), (7, 7)))]


class Families(Checks, unittest.TestCase):

    def check(self, web, prime, times):
        found = family(web, prime, times)
        self.assertIsInstance(found, tuple)
        row, piece = found
        self.assertEqual(row, endless(web))
        self.assertIsInstance(piece, Picture)
        self.assertEqual((piece.web, piece.prime), (web, prime))
        self.assertIs(piece.sizes.__class__, tuple)
        self.assertEqual(piece.sizes, tuple(item * times for item in row))
        self.assertEqual(len(piece.tables), len(web.arrows))
        for (begin, end), table in zip(web.arrows, piece.tables):
            self.assertEqual((table.prime, table.wide, table.high), (prime, piece.sizes[begin], piece.sizes[end]))
            self.assertTrue(all(row.__class__ is tuple and len(row) == table.wide for row in table.rows))
        if max(piece.sizes) <= 6:
            self.assertEqual(piece, Picture(web, prime, piece.sizes, piece.tables))
        self.assertIs(is_piece(piece), True, (web.arrows, prime, times))
        return piece

    def test_times_one_to_three(self):
        mixer = Mixer(120)
        for start in endless_webs():
            for web in (start, mixed_web(mixer, start)):
                for times in (1, 2, 3):
                    for prime in (2, PRIMES[1 + mixer.below(5)]):
                        self.check(web, prime, times)

    def test_over_each_prime(self):
        for web in (Web(2, ((1, 0), (1, 0))), arms(1, 1, 1, 1), arms(1, 3, 3), Web(3, ((0, 1), (1, 2), (2, 2)))):
            for prime in PRIMES:
                self.assertEqual(self.same_twice(family, web, prime, 2), family(web, prime, 2))
                self.check(web, prime, 2)

    def test_mixed_webs(self):
        mixer = Mixer(121)
        seen = 0
        for web in random_webs(mixer, 150):
            if endless(web) is not None:
                self.check(web, PRIMES[seen % 6], 1 + seen % 3)
                seen += 1
        self.assertGreater(seen, 60)

    def test_no_two_of_them_are_of_the_same_size(self):
        web = arms(2, 2, 2)
        sizes = [self.check(web, 2, times).sizes for times in (1, 2, 3)]
        self.assertEqual(sizes, [(3 * k, 2 * k, k, 2 * k, k, 2 * k, k) for k in (1, 2, 3)])
        self.assertGreaterEqual(many_leadings(family(web, 2, 3)[1], family(web, 2, 3)[1]), 3)

    def test_errors_in_order(self):
        web = Web(1, ((0, 0),))
        for thing in more_odd_things() + far_numbers() + [0, 1, 4, 14]:
            self.raises("NoPrime", family, web, thing, 1)
            self.raises("NoPrime", family, line(">"), thing, thing)
        for finite in small_finite_webs():
            for thing in (1, 2, 3, 0, None, "1", -1):
                self.raises("Finite", family, finite, 3, thing)
        for thing in more_odd_things() + far_numbers() + [0, 4, 5]:
            self.raises("NoNumber", family, web, 3, thing)
            self.raises("NoNumber", family, arms(1, 1, 1, 1), 2, thing)


if __name__ == "__main__":
    unittest.main()
