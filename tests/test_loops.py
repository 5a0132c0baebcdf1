"""11.1: the pieces of one place with an arrow back to it, kinds of tables; of e10, loop_kinds."""

import unittest
from collections import Counter
from itertools import product as every

from mapwebs.loops import loop_kinds, loop_piece
from mapwebs.partings import alike, parting
from mapwebs.pictures import Picture, based, beside
from mapwebs.polynomials import at_table, companion, factors, least_polynomial, product
from mapwebs.seals import is_piece
from mapwebs.tables import Table, corner, nought, plain, plus, rank, times, undone
from mapwebs.webs import Web
from samples import PRIMES, Checks, Mixer, far_numbers, tables
from test_partings import mixed_bases
from test_pictures import more_odd_things
from test_polynomials import odd_polynomials, prime_polynomials

LOOP = Web(1, ((0, 0),))
def power_of(prime, poly, power):
    total = (1,)
    for _ in range(power):
        total = product(prime, total, poly)
    return total


def some_primes_of(prime):
    found = prime_polynomials(prime, 1)[:3] + prime_polynomials(prime, 2)[:2]
    if prime < 4:
        found += prime_polynomials(prime, 3)[:1] + prime_polynomials(prime, 4)[-1:]
    return found


def of_degree(prime, degree):
    """A prime polynomial of this degree: one of the monic ones with few worths."""
    for worths in every(range(1, prime + 1), repeat=min(degree, 5)):
        worths = tuple(worth % prime for worth in worths)
        poly = worths + (0,) * (degree - len(worths)) + (1,)
        if factors(prime, poly) == ((poly, 1),):
            return poly
    return None


def put_together(prime, kinds):
    whole = nought(prime, 0, 0)
    for poly, power in kinds:
        whole = corner(whole, companion(prime, power_of(prime, poly, power)))
    return whole


def otherwise_based(mixer, table):
    bases = mixed_bases(mixer, table.prime, (table.wide,))[0]
    return times(times(bases, table), undone(bases))


def told(kinds):
    return tuple(sorted((poly, power, many) for (poly, power), many in Counter(kinds).items()))


def drawn_kinds(mixer, prime, most):
    choice, found = some_primes_of(prime), []
    for _ in range(mixer.below(most + 1)):
        poly = choice[mixer.below(len(choice))]
        found.append((poly, 1 + mixer.below(12 // (len(poly) - 1) // 2)))
    return found


class Pieces(Checks, unittest.TestCase):

    def test_each_degree_and_power(self):
        for prime in PRIMES:
            for degree in range(1, 13):
                poly = of_degree(prime, degree)
                self.assertEqual((len(poly), poly[-1]), (degree + 1, 1))
                for power in range(1, 12 // degree + 1):
                    found = self.same_twice(loop_piece, prime, poly, power)
                    size = degree * power
                    self.assertEqual((found.web, found.prime, found.sizes), (LOOP, prime, (size,)))
                    self.assertEqual(found.tables, (companion(prime, power_of(prime, poly, power)),))
                    self.assertEqual(least_polynomial(found.tables[0]), power_of(prime, poly, power))
                    self.assertEqual(loop_kinds(found.tables[0]), ((poly, power, 1),))
                    if size <= 6:
                        self.assertEqual(found, Picture(LOOP, prime, (size,), found.tables))
                    if prime in (2, 5):
                        self.assertIs(is_piece(found), True)
                for power in (12 // degree + 1, 13, 0, -1):
                    self.raises("NoNumber", loop_piece, prime, poly, power)

    def test_no_prime(self):
        for thing in more_odd_things() + far_numbers() + [0, 1, 4, 14]:
            self.raises("NoPrime", loop_piece, thing, (1, 1), 1)
            self.raises("NoPrime", loop_piece, thing, None, 0)

    def test_no_polynomial(self):
        for prime in PRIMES:
            products = [power_of(prime, (1, 1), 2), product(prime, (0, 1), (1, 1)), power_of(prime, (1, 1), 12)]
            degrees = [(), (1,), of_degree(prime, 13), (0,) * 13 + (1,), (1,) * 5000]
            others = [] if prime == 2 else [(1, 2), (0, 2), product(prime, of_degree(prime, 2), (2,))]
            for thing in products + degrees + others + odd_polynomials(prime) + more_odd_things():
                if thing != (0, 1):
                    self.raises("NoPolynomial", loop_piece, prime, thing, 1)
                    self.raises("NoPolynomial", loop_piece, prime, thing, None)
                    self.raises("NoPolynomial", loop_piece, prime, thing, 13)

    def test_no_number(self):
        for prime in PRIMES:
            for thing in more_odd_things() + far_numbers() + [0, 13]:
                self.raises("NoNumber", loop_piece, prime, (0, 1), thing)
            for degree in (2, 5, 7, 12):
                for thing in (0, 12 // degree + 1, True, "1", None, (1,)):
                    self.raises("NoNumber", loop_piece, prime, of_degree(prime, degree), thing)


class Kinds(Checks, unittest.TestCase):

    def test_companions_put_together(self):
        mixer = Mixer(220)
        for prime in PRIMES:
            for _ in range(40):
                kinds = drawn_kinds(mixer, prime, 4)
                table = put_together(prime, kinds)
                self.assertEqual(self.same_twice(loop_kinds, table), told(kinds))
                self.assertEqual(loop_kinds(otherwise_based(mixer, table)), told(kinds))

    def test_alike_kinds(self):
        mixer = Mixer(221)
        for prime in PRIMES:
            for poly in some_primes_of(prime):
                kinds = [(poly, 1)] * 3 + [(poly, 2)] * 2
                self.assertEqual(loop_kinds(otherwise_based(mixer, put_together(prime, kinds))), ((poly, 1, 3), (poly, 2, 2)))

    def test_kinds_of_values(self):
        found = loop_kinds(corner(plain(3, 2), nought(3, 1, 1)))
        self.assertEqual(found, (((0, 1), 1, 1), ((2, 1), 1, 2)))
        for triple in found:
            self.assertEqual([item.__class__ for item in triple], [tuple, int, int])

    def test_size_nought(self):
        for prime in PRIMES:
            self.assertEqual(loop_kinds(nought(prime, 0, 0)), ())
            self.assertEqual(loop_kinds(Table(prime, 0, ())), ())

    def test_no_fit(self):
        for prime in PRIMES:
            for high in range(4):
                for wide in range(4):
                    if high != wide:
                        self.raises("NoFit", loop_kinds, nought(prime, high, wide))
        self.raises("NoFit", loop_kinds, corner(plain(2, 12), nought(2, 3, 4)))

    def test_drawn_tables_against_ranks(self):
        mixer = Mixer(222)
        for number in range(150):
            prime, size = PRIMES[number % 6], mixer.below(8)
            table = mixer.table(prime, size, size)
            if number % 3 == 0:
                table = times(table, nought(prime, 0, 0) if size == 0 else
                              corner(nought(prime, 1, 1), mixer.table(prime, size - 1, size - 1)))
            found = loop_kinds(table)
            self.assertEqual(sum((len(poly) - 1) * power * many for poly, power, many in found), size)
            self.assertEqual(list(found), sorted(found))
            self.assertEqual(len(set(triple[:2] for triple in found)), len(found))
            for poly, power, many in found:
                self.assertGreater(many, 0)
                self.assertEqual(factors(prime, poly), ((poly, 1),))
            for poly in {triple[0] for triple in found}:
                for most in range(1, 9):
                    # So much as some power brings to noughts, each piece up to its own power.
                    at = at_table(power_of(prime, poly, most), table)
                    nullity = sum((len(poly) - 1) * min(power, most) * many for own, power, many in found if own == poly)
                    self.assertEqual(size - rank(at), nullity)

    def test_all_small_tables_by_bases(self):
        for prime, size in ((2, 1), (2, 2), (3, 1), (3, 2)):
            every_table = tables(prime, size, size)
            regular = [table for table in every_table if undone(table) is not None]
            for one in every_table:
                reached = [times(times(base, one), undone(base)).rows for base in regular]
                for other in every_table:
                    self.assertEqual(loop_kinds(one) == loop_kinds(other), other.rows in reached)

    def test_they_are_the_pieces_of_a_parting(self):
        mixer = Mixer(223)
        for number in range(30):
            prime, size = PRIMES[number % 6], 1 + mixer.below(5)
            picture = Picture(LOOP, prime, (size,), (mixer.table(prime, size, size),))
            found = loop_kinds(picture.tables[0])
            pieces = [loop_piece(prime, poly, power) for poly, power, many in found for _ in range(many)]
            self.assertEqual(sorted(piece.sizes for piece in parting(picture)[0]), sorted(piece.sizes for piece in pieces))
            self.assertIsNotNone(alike(picture, beside(LOOP, prime, pieces)))

    def test_tables_larger_than_may_be_constructed(self):
        mixer = Mixer(224)
        for prime in PRIMES:
            poly = of_degree(prime, 12)
            for kinds in ([(poly, 1)] * 2, [((0, 1), 12), ((1, 1), 12), ((0, 1), 3)], [((1, 1), 5)] * 4):
                table = otherwise_based(mixer, put_together(prime, kinds))
                self.assertGreater(table.wide, 12)
                self.assertEqual(loop_kinds(table), told(kinds))
        picture = beside(LOOP, 5, [loop_piece(5, (2, 1), 12), loop_piece(5, (0, 1), 7)] * 2)
        picture = based(picture, mixed_bases(mixer, 5, picture.sizes))
        self.assertEqual(loop_kinds(picture.tables[0]), (((0, 1), 7, 2), ((2, 1), 12, 2)))
        # A power beyond those of loop_piece: two of x, each 12 times, and a 1 that joins them.
        single = companion(2, (0,) * 12 + (1,))
        joint = corner(nought(2, 12, 11), corner(plain(2, 1), nought(2, 11, 12)))
        self.assertEqual(loop_kinds(plus(corner(single, single), joint)), (((0, 1), 24, 1),))

    def test_of_e10(self):
        self.assertEqual(loop_kinds(Table(2, 2, ((0, 1), (1, 1)))), (((1, 1, 1), 1, 1),))


if __name__ == "__main__":
    unittest.main()
