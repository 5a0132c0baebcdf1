"""11.2: pencils, and the kinds of their pieces; of e10, pencil_kinds."""

import unittest
from collections import Counter

from mapwebs.partings import alike, parting
from mapwebs.pencils import pencil_kinds, pencil_of
from mapwebs.pictures import Picture, based, beside
from mapwebs.polynomials import companion
from mapwebs.seals import is_piece
from mapwebs.tables import Table, nought, plain, turned_about, undone
from mapwebs.webs import Web, line
from samples import PRIMES, Checks, Mixer, far_numbers
from test_loops import of_degree, power_of, some_primes_of
from test_partings import mixed_bases
from test_pictures import mixed_picture, more_odd_things
from test_polynomials import odd_polynomials
from test_seals import every_picture

PENCIL = Web(2, ((0, 1), (0, 1)))


def by_the_words(prime, kind):
    """The sizes and the rows of both tables, worth by worth as 11.2 tells them."""
    word = kind[0]
    if word in ("up", "down"):
        n = kind[1]
        first = [[int(row == k) for k in range(n)] for row in range(n + 1)]
        second = [[int(row == k + 1) for k in range(n)] for row in range(n + 1)]
        if word == "down":
            first, second = [[[table[row][k] for row in range(n + 1)] for k in range(n)] for table in (first, second)]
            return (n + 1, n), first, second
        return (n, n + 1), first, second
    poly, power = (kind[1], kind[2]) if word == "even" else ((0, 1), kind[1])
    table = [list(row) for row in companion(prime, power_of(prime, poly, power)).rows]
    units = [[int(row == k) for k in range(len(table))] for row in range(len(table))]
    return (len(table),) * 2, *((units, table) if word == "even" else (table, units))


def every_kind(prime, most, polys):
    """All kinds with sizes up to the most, of these polynomials."""
    found = [("up", n) for n in range(most)] + [("down", n) for n in range(most)]
    found += [("last", power) for power in range(1, most + 1)]
    return found + [("even", poly, power) for poly in polys for power in range(1, most // (len(poly) - 1) + 1)]


def drawn_kinds(mixer, prime, many, most):
    choice = every_kind(prime, most, some_primes_of(prime))
    return [choice[mixer.below(len(choice))] for _ in range(many)]


def laid(mixer, prime, kinds):
    whole = beside(PENCIL, prime, [pencil_of(prime, kind) for kind in kinds])
    return based(whole, mixed_bases(mixer, prime, whole.sizes))


def told(kinds):
    return tuple(sorted(Counter(kinds).items()))


class Pieces(Checks, unittest.TestCase):

    def test_each_kind_by_the_words(self):
        for prime in PRIMES:
            for kind in every_kind(prime, 12, some_primes_of(prime) + [of_degree(prime, 12), of_degree(prime, 5)]):
                found = self.same_twice(pencil_of, prime, kind)
                sizes, first, second = by_the_words(prime, kind)
                self.assertEqual((found.web, found.prime, found.sizes), (PENCIL, prime, sizes))
                for table, rows in zip(found.tables, (first, second)):
                    self.assertEqual((table.prime, table.wide, table.high), (prime, *sizes))
                    self.assertEqual(table.rows, tuple(tuple(row) for row in rows))
                self.assertEqual(pencil_kinds(found), ((kind, 1),))
                if max(sizes) <= 6:
                    self.assertEqual(found, Picture(PENCIL, prime, sizes, found.tables))
                if max(sizes) <= 5 or (prime == 3 and max(sizes) == 12):
                    self.assertIs(is_piece(found), True)

    def test_no_two_are_alike(self):
        for prime in (2, 3):
            kinds = every_kind(prime, 4, some_primes_of(prime))
            pictures = [pencil_of(prime, kind) for kind in kinds]
            for at, one in enumerate(pictures):
                for other in pictures[:at]:
                    self.assertIsNone(alike(one, other))

    def test_the_smallest(self):
        self.assertEqual(pencil_of(2, ("up", 0)), Picture(PENCIL, 2, (0, 1), (nought(2, 1, 0),) * 2))
        self.assertEqual(pencil_of(2, ("down", 0)), Picture(PENCIL, 2, (1, 0), (nought(2, 0, 1),) * 2))
        self.assertEqual(pencil_of(5, ("last", 1)), Picture(PENCIL, 5, (1, 1), (nought(5, 1, 1), plain(5, 1))))
        self.assertEqual(pencil_of(5, ("even", (3, 1), 1)),
                         Picture(PENCIL, 5, (1, 1), (plain(5, 1), Table(5, 1, ((2,),)))))

    def test_no_prime(self):
        for thing in more_odd_things() + far_numbers() + [0, 1, 4, 14]:
            self.raises("NoPrime", pencil_of, thing, ("up", 1))
            self.raises("NoPrime", pencil_of, thing, None)

    def test_sizes_up_to_12(self):
        for prime in PRIMES:
            for kind in (("up", 11), ("down", 11), ("last", 12), ("even", (0, 1), 12), ("even", of_degree(prime, 12), 1),
                         ("even", of_degree(prime, 5), 2), ("even", of_degree(prime, 6), 2)):
                self.assertLessEqual(max(pencil_of(prime, kind).sizes), 12)
            for kind in (("up", 12), ("down", 12), ("last", 13), ("even", (0, 1), 13), ("even", of_degree(prime, 13), 1),
                         ("even", of_degree(prime, 5), 3), ("even", of_degree(prime, 7), 2), ("up", 10 ** 11)):
                self.raises("NoKind", pencil_of, prime, kind)

    def test_no_kind(self):
        for prime in PRIMES:
            squared = power_of(prime, (1, 1), 2)
            wrong = [("up",), ("up", -1), ("up", True), ("up", False), ("up", "1"), ("up", None), ("up", (1,)), ("up", 1, 1),
                     ("up", 1, ()), ["up", 1], {"up": 1}, "up", (1, "up"), ("Up", 1), ("up ", 1), (b"up", 1), (("up",), 1),
                     ("down",), ("down", -1), ("down", True), ("down", 1, 1), ["down", 1], ("down", [1]), ("", 1), (None, 1),
                     ("last",), ("last", 0), ("last", -1), ("last", True), ("last", (0, 1), 1), ["last", 1], ("last", 1, 1),
                     ("even",), ("even", (1, 1)), ("even", 1), ("even", 1, 1), ("even", (1, 1), 0), ("even", (1, 1), -1),
                     ("even", (1, 1), True), ("even", (1, 1), None), ("even", (1, 1), 1, 1), ["even", (1, 1), 1],
                     ("even", [1, 1], 1), ("even", squared, 1), ("even", (1,), 1), ("even", (), 1), ("even", (1, 0), 1),
                     ("even", (1, prime), 1), ("even", (1, True), 1), ("even", (1, 1), (1,)), ("odd", (1, 1), 1),
                     ("even", (1,) * 5000, 1), ("first", 1), ("up", 0, 0), (), ("even", 1, (1, 1)), ("up", 1, 1, 1), ("down", 1, 1, 1), ("last", 1, 1, 1),
                     ("even", (1, 1), 1, 1, 1)]
            if prime > 2:
                wrong.append(("even", (1, 2), 1))
            for thing in wrong + more_odd_things() + far_numbers():
                self.raises("NoKind", pencil_of, prime, thing)
        for thing in more_odd_things() + far_numbers():
            for kind in ((thing, 1), (thing, (1, 1), 1), ("even", (1, 1), thing), ("last", thing)):
                self.raises("NoKind", pencil_of, 3, kind)
            if thing != 0:
                self.raises("NoKind", pencil_of, 3, ("up", thing))
        for thing in odd_polynomials(5):
            if thing != (0, 1):
                self.raises("NoKind", pencil_of, 5, ("even", thing, 1))


class Kinds(Checks, unittest.TestCase):

    def test_drawn_kinds(self):
        mixer = Mixer(230)
        for number in range(240):
            prime = PRIMES[number % 6]
            kinds = drawn_kinds(mixer, prime, mixer.below(6), 1 + number % 6)
            if number % 4 == 0:
                kinds = kinds + kinds[:2] + kinds[:1]
            picture = laid(mixer, prime, kinds)
            self.assertEqual(self.same_twice(pencil_kinds, picture), told(kinds))

    def test_kinds_of_values(self):
        found = pencil_kinds(beside(PENCIL, 3, [pencil_of(3, kind) for kind in (("last", 2), ("even", (1, 1), 1), ("up", 0))]))
        self.assertEqual(found, ((("even", (1, 1), 1), 1), (("last", 2), 1), (("up", 0), 1)))
        for pair in found:
            self.assertEqual([pair.__class__, pair[0].__class__, pair[1].__class__], [tuple, tuple, int])

    def test_sizes_of_nought(self):
        for prime in PRIMES:
            self.assertEqual(pencil_kinds(beside(PENCIL, prime, ())), ())
            for size in range(7):
                self.assertEqual(pencil_kinds(Picture(PENCIL, prime, (0, size), (nought(prime, size, 0),) * 2)),
                                 ((("up", 0), size),) if size else ())
                self.assertEqual(pencil_kinds(Picture(PENCIL, prime, (size, 0), (nought(prime, 0, size),) * 2)),
                                 ((("down", 0), size),) if size else ())
        self.assertEqual(pencil_kinds(Picture(PENCIL, 7, (2, 3), (nought(7, 3, 2),) * 2)), ((("down", 0), 2), (("up", 0), 3)))

    def test_drawn_pencils_are_alike_to_their_kinds(self):
        mixer = Mixer(231)
        for number in range(60):
            prime = PRIMES[number % 6]
            picture = mixed_picture(mixer, PENCIL, prime, 4)
            if number % 3 == 0 and picture.sizes[0] > 0:
                # One table that is led by the other one has kinds of all words more often.
                first = picture.tables[0]
                picture = Picture(PENCIL, prime, picture.sizes, (first, Table(prime, first.wide, tuple(
                    row[1:] + (0,) for row in first.rows))))
            found = pencil_kinds(picture)
            pieces = [pencil_of(prime, kind) for kind, many in found for _ in range(many)]
            self.assertLess(len(pieces), 13)
            self.assertIsNotNone(alike(picture, beside(PENCIL, prime, pieces)))
            self.assertEqual(Counter(piece.sizes for piece in parting(picture)[0]), Counter(piece.sizes for piece in pieces))
            self.assertEqual(list(found), sorted(found))

    def test_all_small_ones_by_kinds(self):
        for prime, sizes in ((2, (1, 1)), (2, (1, 2)), (2, (2, 1)), (2, (2, 2)), (3, (1, 1)), (3, (1, 2)), (5, (1, 1))):
            pictures = list(every_picture(PENCIL, prime, sizes))
            kinds = [pencil_kinds(picture) for picture in pictures]
            step = max(1, len(pictures) // 16)
            for at in range(0, len(pictures), step):
                for other in range(0, at, step + 1):
                    self.assertEqual(kinds[at] == kinds[other], alike(pictures[at], pictures[other]) is not None)
            for found in kinds:
                total = [0, 0]
                for kind, many in found:
                    for place in (0, 1):
                        total[place] += many * pencil_of(prime, kind).sizes[place]
                self.assertEqual(tuple(total), sizes)

    def test_turned_about_and_exchanged(self):
        mixer = Mixer(232)
        for number in range(40):
            prime = PRIMES[number % 6]
            kinds = drawn_kinds(mixer, prime, 4, 5)
            picture = laid(mixer, prime, kinds)
            about = tuple(turned_about(table) for table in picture.tables)
            turned = beside(PENCIL, prime, ())
            if max(picture.sizes) <= 6:
                turned = Picture(PENCIL, prime, picture.sizes[::-1], about)
                swapped = [({"up": "down", "down": "up"}.get(kind[0], kind[0]),) + kind[1:] for kind in kinds]
                self.assertEqual(pencil_kinds(turned), told(swapped))
                exchanged = pencil_kinds(Picture(PENCIL, prime, picture.sizes, picture.tables[::-1]))
                x = sorted(kind[1] for kind in kinds if kind[0] == "last")
                self.assertEqual(sorted(kind[2] for kind, many in exchanged for _ in range(many)
                                        if kind[0] == "even" and kind[1] == (0, 1)), x)

    def test_larger_than_may_be_constructed(self):
        mixer = Mixer(233)
        for prime in PRIMES:
            kinds = drawn_kinds(mixer, prime, 6, 11) + [("up", 11), ("down", 11), ("last", 7)]
            picture = laid(mixer, prime, kinds)
            self.assertGreater(max(picture.sizes), 18)
            self.assertEqual(pencil_kinds(picture), told(kinds))
        poly = of_degree(2, 12)
        kinds = [("even", poly, 1), ("even", poly, 1), ("even", (1, 1), 12), ("last", 12), ("last", 12)]
        self.assertEqual(pencil_kinds(laid(mixer, 2, kinds)), told(kinds))

    def test_no_pencil(self):
        for web in (Web(1, ((0, 0),)), Web(1, ((0, 0), (0, 0))), Web(2, ()), line(">"), Web(2, ((1, 0), (1, 0))),
                    Web(2, ((0, 1), (1, 0))), Web(2, ((1, 0), (0, 1))), Web(2, ((0, 1),) * 3), Web(3, ((0, 1), (0, 1)))):
            self.raises("NoPencil", pencil_kinds, beside(web, 2, ()))

    def test_of_e10(self):
        self.assertEqual(pencil_kinds(pencil_of(3, ("up", 1))), ((("up", 1), 1),))

    def test_where_a_table_leads_back(self):
        mixer = Mixer(234)
        for prime in PRIMES:
            table = mixer.regular(prime, 5)
            picture = Picture(PENCIL, prime, (5, 5), (table, table))
            self.assertEqual(pencil_kinds(picture), ((("even", (prime - 1, 1), 1), 5),))
            picture = Picture(PENCIL, prime, (5, 5), (table, undone(table)))
            self.assertEqual([kind[0] for kind, many in pencil_kinds(picture)], ["even"] * len(pencil_kinds(picture)))


if __name__ == "__main__":
    unittest.main()
