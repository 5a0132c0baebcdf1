"""4.2 and 4.3: pictures taken apart into pieces; alike pictures, matched pieces."""

import unittest
from itertools import permutations, product

from mapwebs.leadings import back, behind, is_leading, many_leadings
from mapwebs.partings import alike, is_parting, matched, next_worths, parting
from mapwebs.pictures import Picture, based, beside
from mapwebs.polynomials import companion, factors, least_polynomial
from mapwebs.seals import is_piece
from mapwebs.tables import Table, corner, nought, plain, times, undone
from mapwebs.webs import Web, line
from samples import PRIMES, Checks, Mixer, far_numbers, tables
from test_leadings import goes_along, unlike_pairs
from test_pictures import FORK, RING, mixed_picture, more_odd_things
from test_polynomials import prime_polynomials
from test_seals import BOTH_WAYS, LOOP, LOOP_AND_ARROW, PENCIL, TWO_LOOPS, WHOLE, every_picture, key

STAR = Web(5, ((1, 0), (2, 0), (3, 0), (4, 0)))


def some_webs():
    return [Web(1, ()), Web(3, ()), line(">"), line("<>"), LOOP, TWO_LOOPS, PENCIL, BOTH_WAYS, LOOP_AND_ARROW, RING,
            FORK, STAR, Web(3, ((0, 1), (1, 2), (2, 0))), Web(2, ((0, 1),) * 3)]


def mixed_bases(mixer, prime, sizes):
    """Tables that can be undone, of any size, none of whose corners stands alone."""
    found = []
    for size in sizes:
        if size <= 12:
            found.append(mixer.regular(prime, size))
            continue
        first, second = nought(prime, 0, 0), nought(prime, 0, 0)
        for cut in range(0, size, 12):
            first = corner(first, mixer.regular(prime, min(12, size - cut)))
        for cut in range(0, size, 12):
            second = corner(mixer.regular(prime, min(12, size - cut)), second)
        found.append(times(first, second))
    return tuple(found)


def some_pieces(mixer, web, prime, many, most=2):
    """So many pieces of a web, not all of one place alone; perhaps some of them alike."""
    found = []
    rounds = 0
    while len(found) < many:
        rounds += 1
        picture = mixed_picture(mixer, web, prime, most)
        if is_piece(picture) and (sum(picture.sizes) > 1 or rounds > 20):
            found.append(picture)
    return found


class Shown(Checks):
    """What 4.2 says of a parting, word by word."""

    def check(self, picture, found):
        self.assertIsInstance(found, tuple)
        pieces, leading = found
        self.assertIsInstance(pieces, tuple)
        for piece in pieces:
            self.assertIsInstance(piece, Picture)
            self.assertEqual((piece.web, piece.prime), (picture.web, picture.prime))
            self.assertIs(is_piece(piece), True)
        laid = beside(picture.web, picture.prime, ())
        for piece in pieces:
            laid = beside(picture.web, picture.prime, [laid, piece])
        self.assertEqual(laid.sizes, picture.sizes)
        self.assertIsInstance(leading, tuple)
        for table, size in zip(leading, picture.sizes):
            self.assertEqual((table.prime, table.high, table.wide), (picture.prime, size, size))
            self.assertIsNotNone(undone(table))
        self.assertEqual(len(leading), picture.web.many)
        self.assertTrue(goes_along(laid, picture, leading))
        self.assertIs(is_parting(picture, found), True)


class Partings(Shown, unittest.TestCase):

    def test_whole_sizes(self):
        for web, prime, all_sizes in WHOLE:
            for sizes in all_sizes:
                for number, picture in enumerate(every_picture(web, prime, sizes)):
                    if number % 5 == 0:
                        found = parting(picture)
                        self.check(picture, found)
                        self.assertEqual(len(found[0]) == 1, is_piece(picture))
                        self.assertEqual(len(found[0]) == 0, not any(sizes))

    def test_empty_pictures(self):
        for prime in PRIMES:
            for web in some_webs():
                empty = beside(web, prime, ())
                found = self.same_twice(parting, empty)
                self.assertEqual(found, ((), (nought(prime, 0, 0),) * web.many))
                self.check(empty, found)

    def test_mixed_pictures_over_each_prime(self):
        mixer = Mixer(90)
        for prime in PRIMES:
            for web in some_webs():
                for most in (1, 2, 4):
                    picture = mixed_picture(mixer, web, prime, most)
                    self.check(picture, self.same_twice(parting, picture))

    def test_pieces_put_together_come_apart_again(self):
        mixer = Mixer(91)
        for prime in PRIMES:
            for web in some_webs():
                kept = some_pieces(mixer, web, prime, 2)
                pieces = [kept[0], kept[1], kept[0]]
                whole = beside(web, prime, pieces)
                picture = based(whole, mixed_bases(mixer, prime, whole.sizes))
                found = parting(picture)
                self.check(picture, found)
                self.assertEqual(len(found[0]), 3)
                self.assertIsNotNone(matched(found[0], pieces))

    def test_several_alike_pieces(self):
        mixer = Mixer(92)
        for prime, web, most, many in [(2, LOOP, 3, 4), (3, PENCIL, 2, 4), (2, TWO_LOOPS, 2, 3), (3, TWO_LOOPS, 1, 5),
                                       (13, RING, 2, 3), (2, STAR, 2, 3), (5, BOTH_WAYS, 2, 4), (7, LOOP, 3, 4),
                                       (11, line(">"), 1, 6), (2, LOOP_AND_ARROW, 2, 4)]:
            for _ in range(4):
                piece = some_pieces(mixer, web, prime, 1, most)[0]
                whole = beside(web, prime, [piece] * many)
                picture = based(whole, mixed_bases(mixer, prime, whole.sizes))
                found = self.same_twice(parting, picture)
                self.check(picture, found)
                self.assertEqual(len(found[0]), many)
                self.assertIsNotNone(matched(found[0], [piece] * many))

    def test_where_no_single_leading_tells_them_apart(self):
        mixer = Mixer(93)
        for prime, size in ((2, 2), (3, 1), (2, 3)):
            one = Picture(TWO_LOOPS, prime, (size,), (nought(prime, size, size), plain(prime, size)))
            while not is_piece(one) or many_leadings(one, one) > 1:
                one = mixed_picture(mixer, TWO_LOOPS, prime, sizes=(size,))
            double = beside(TWO_LOOPS, prime, [one, one])
            for _ in range(40):
                picture = based(double, (mixer.regular(prime, 2 * size),))
                found = parting(picture)
                self.check(picture, found)
                self.assertEqual([piece.sizes for piece in found[0]], [(size,), (size,)])

    def test_all_sums_are_tried_in_the_end(self):
        for prime, many in ((2, 1), (2, 6), (3, 4), (5, 3), (13, 2), (7, 1)):
            worths, told = [0] * many, set()
            for _ in range(prime ** many):
                worths = self.same_twice(next_worths, prime, worths)
                told.add(tuple(worths))
            self.assertEqual(told, set(product(range(prime), repeat=many)))

    def test_a_loop_comes_apart_as_its_polynomial(self):
        mixer = Mixer(94)
        for prime in PRIMES:
            for degree in range(1, 7):
                poly = mixer.column(prime, degree) + (1,)
                picture = Picture(LOOP, prime, (degree,), (companion(prime, poly),))
                picture = based(picture, (mixer.regular(prime, degree),))
                found = parting(picture)
                self.check(picture, found)
                least = [factors(prime, least_polynomial(piece.tables[0])) for piece in found[0]]
                self.assertEqual(sorted(least), sorted([(pair,) for pair in factors(prime, poly)]))

    def test_pieces_that_are_there_once_more_in_greater_fields(self):
        mixer = Mixer(95)
        for prime, degree in ((2, 2), (2, 3), (3, 2), (5, 2)):
            poly = prime_polynomials(prime, degree)[-1]
            piece = Picture(PENCIL, prime, (degree, degree), (plain(prime, degree), companion(prime, poly)))
            for many in (1, 2, 3):
                whole = beside(PENCIL, prime, [piece] * many)
                picture = based(whole, mixed_bases(mixer, prime, whole.sizes))
                found = parting(picture)
                self.check(picture, found)
                self.assertEqual([part.sizes for part in found[0]], [(degree, degree)] * many)

    def test_what_beside_returns_with_sizes_above_the_bounds(self):
        mixer = Mixer(96)
        for prime in PRIMES:
            for web, sizes, many in [(LOOP, (5,), 3), (PENCIL, (4, 4), 2), (line("><"), (4, 5, 4), 3), (RING, (3, 3), 3),
                                     (STAR, (4, 2, 2, 2, 2), 2), (Web(1, ()), (6,), 3), (TWO_LOOPS, (4,), 2)]:
                pictures = [mixed_picture(mixer, web, prime, sizes=sizes) for _ in range(many)]
                whole = beside(web, prime, pictures)
                self.assertGreater(max(whole.sizes), 6)
                picture = based(whole, mixed_bases(mixer, prime, whole.sizes))
                found = parting(picture)
                self.check(picture, found)
                apart = [piece for one in pictures for piece in parting(one)[0]]
                self.assertEqual(len(apart), len(found[0]))
                if len(apart) <= 12:
                    self.assertIsNotNone(matched(apart, found[0]))

    def test_the_second_fact(self):
        mixer = Mixer(97)
        for prime in (2, 3, 13):
            for web in some_webs():
                picture = mixed_picture(mixer, web, prime, 3)
                other = based(picture, mixed_bases(mixer, prime, picture.sizes))
                pieces, others = parting(picture)[0], parting(other)[0]
                if len(pieces) <= 12:
                    order = matched(pieces, others)
                    self.assertEqual(sorted(order), list(range(len(pieces))))
                else:
                    self.assertEqual(len(pieces), len(others))

    def test_e03(self):
        picture = Picture(line(">"), 2, (2, 1), (Table(2, 2, ((1, 0),)),))
        found = parting(picture)
        self.assertEqual(len(found[0]), 2)
        self.check(picture, found)


class Judged(Shown, unittest.TestCase):

    def right_partings(self, mixer):
        for prime, web, many in [(2, LOOP, 2), (3, PENCIL, 2), (13, line(">"), 3), (2, RING, 2), (5, Web(2, ()), 2)]:
            pieces = some_pieces(mixer, web, prime, many)
            whole = beside(web, prime, pieces)
            bases = mixed_bases(mixer, prime, whole.sizes)
            yield based(whole, bases), tuple(pieces), bases

    def test_right_ones_of_ones_own(self):
        mixer = Mixer(98)
        for picture, pieces, bases in self.right_partings(mixer):
            self.assertIs(self.same_twice(is_parting, picture, (pieces, bases)), True)
            self.check(picture, (pieces, bases))
            changes = [mixed_bases(mixer, picture.prime, piece.sizes) for piece in pieces]
            others = tuple(based(piece, change) for piece, change in zip(pieces, changes))
            across = list(bases)
            for place in range(picture.web.many):
                laid = nought(picture.prime, 0, 0)
                for change in changes:
                    laid = corner(laid, undone(change[place]))
                across[place] = times(bases[place], laid)
            self.assertIs(is_parting(picture, (others, tuple(across))), True)

    def test_forms(self):
        mixer = Mixer(99)
        for picture, pieces, bases in self.right_partings(mixer):
            for thing in [[pieces, bases], (list(pieces), bases), (pieces, list(bases)), (pieces,), (pieces, bases, 0),
                          (bases, pieces), (pieces[0], bases), (pieces, bases[0]), (pieces, bases[:-1]), (pieces, ()),
                          (pieces, bases + bases[:1]), (pieces[:-1], bases), (pieces + pieces[:1], bases), ((), bases),
                          {0: pieces, 1: bases}, picture, (pieces, None), (None, bases), (pieces[::-1], None)]:
                self.assertIs(self.same_twice(is_parting, picture, thing), False)

    def test_a_piece_that_parts_further(self):
        mixer = Mixer(100)
        for picture, pieces, bases in self.right_partings(mixer):
            plains = tuple(plain(picture.prime, size) for size in picture.sizes)
            self.assertIs(is_parting(picture, ((picture,), plains)), False)
            self.assertTrue(is_leading(picture, picture, plains))
            double = beside(picture.web, picture.prime, pieces[:2])
            self.assertIs(is_parting(picture, ((double,) + pieces[2:], bases)), False)
            if is_piece(pieces[0]):
                own = tuple(plain(picture.prime, size) for size in pieces[0].sizes)
                self.assertIs(is_parting(pieces[0], ((pieces[0],), own)), True)

    def test_an_empty_one_is_no_piece(self):
        mixer = Mixer(101)
        for picture, pieces, bases in self.right_partings(mixer):
            empty = beside(picture.web, picture.prime, ())
            for thing in ((pieces + (empty,), bases), ((empty,) + pieces, bases), ((empty,) * 5000, bases)):
                self.assertIs(is_parting(picture, thing), False)
            self.assertIs(is_parting(empty, ((empty,), (nought(picture.prime, 0, 0),) * picture.web.many)), False)
            self.assertIs(is_parting(empty, ((), (nought(picture.prime, 0, 0),) * picture.web.many)), True)

    def test_leadings_that_will_not_do(self):
        mixer = Mixer(102)
        for picture, pieces, bases in self.right_partings(mixer):
            none = tuple(nought(picture.prime, size, size) for size in picture.sizes)
            self.assertIs(is_parting(picture, (pieces, none)), False)
            self.assertTrue(is_leading(beside(picture.web, picture.prime, pieces), picture, none))
            for place, size in enumerate(picture.sizes):
                if size:
                    singular = bases[:place] + none[place:place + 1] + bases[place + 1:]
                    self.assertIs(is_parting(picture, (pieces, singular)), False)
                other = bases[:place] + (nought(17 % 7 + 4, size, size),) + bases[place + 1:]
                if picture.prime != 7:
                    self.assertIs(is_parting(picture, (pieces, other)), False)
            # A leading without a back that is none just in part: one piece is led to nought.
            parts = list(bases)
            for place, size in enumerate(picture.sizes):
                ahead = pieces[0].sizes[place]
                rows = tuple((0,) * ahead + row[ahead:] for row in bases[place].rows)
                parts[place] = Table(picture.prime, size, rows)
            self.assertTrue(is_leading(beside(picture.web, picture.prime, pieces), picture, tuple(parts)))
            self.assertIs(is_parting(picture, (pieces, tuple(parts))), False)
        one = Picture(line(">"), 3, (1, 1), (plain(3, 1),))
        twice = Table(3, 1, ((2,),))
        self.assertIs(is_parting(one, ((one,), (plain(3, 1), twice))), False)
        self.assertIs(is_parting(one, ((one,), (twice, twice))), True)
        two = Picture(line(">"), 3, (1, 1), (twice,))
        self.assertIs(is_parting(one, ((two,), (twice, plain(3, 1)))), True)
        self.assertIs(is_parting(one, ((two,), (plain(3, 1), plain(3, 1)))), False)

    def test_other_webs_and_primes(self):
        one = Picture(line(">"), 3, (1, 0), (nought(3, 0, 1),))
        good = (plain(3, 1), plain(3, 0))
        self.assertIs(is_parting(one, ((one,), good)), True)
        for other in [Picture(line("<"), 3, (1, 0), (nought(3, 1, 0),)), Picture(Web(2, ()), 3, (1, 0), ()),
                      Picture(line(">"), 5, (1, 0), (nought(5, 0, 1),)), Picture(Web(1, ()), 3, (1,), ()),
                      Picture(Web(3, ((0, 1),)), 3, (1, 0, 0), (nought(3, 0, 1),))]:
            self.assertIs(is_parting(one, ((other,), good)), False)
            self.assertIs(is_parting(one, ((other, one), good)), False)
            self.assertIs(is_parting(other, ((one,), good)), False)

    def test_sizes_that_do_not_match(self):
        one = Picture(Web(2, ()), 2, (1, 0), ())
        other = Picture(Web(2, ()), 2, (0, 1), ())
        both = Picture(Web(2, ()), 2, (1, 1), ())
        good = (plain(2, 1), plain(2, 1))
        self.assertIs(is_parting(both, ((one, other), good)), True)
        for pieces in [(one,), (one, one), (other, other), (one, other, one), (one,) * 5000, (both,), (both, one)]:
            self.assertIs(is_parting(both, (pieces, good)), False)

    def test_odd_things(self):
        mixer = Mixer(103)
        for picture, pieces, bases in list(self.right_partings(mixer))[:3]:
            for thing in more_odd_things() + far_numbers():
                self.assertIs(self.same_twice(is_parting, picture, thing), False)
                for odd in [(thing, bases), (pieces, thing), (pieces[:-1] + (thing,), bases), ((thing,) * 2, bases),
                            (pieces, bases[:-1] + (thing,)), (thing, thing), (pieces, (thing,) * len(bases))]:
                    self.assertIs(is_parting(picture, odd), False)


class Alike(Shown, unittest.TestCase):

    def check_alike(self, one, other):
        found = self.same_twice(alike, one, other)
        self.assertIsInstance(found, tuple)
        self.assertIs(is_leading(one, other, found), True)
        self.assertTrue(goes_along(one, other, found))
        self.assertIsNotNone(back(found))
        self.assertTrue(is_leading(other, one, back(found)))

    def test_all_pairs_of_small_pictures(self):
        yes = no = 0
        for web, prime, sizes in [(LOOP, 2, (2,)), (LOOP, 3, (1,)), (line(">"), 2, (2, 1)), (PENCIL, 2, (1, 1)),
                                  (PENCIL, 2, (2, 1)), (BOTH_WAYS, 2, (1, 1)), (BOTH_WAYS, 3, (1, 1)), (RING, 2, (1, 1)),
                                  (LOOP_AND_ARROW, 2, (1, 1)), (TWO_LOOPS, 2, (1,)), (line("><"), 2, (1, 1, 1))]:
            regular = [[table for table in tables(prime, size, size) if undone(table) is not None] for size in sizes]
            bases = list(product(*regular))
            every = list(every_picture(web, prime, sizes))
            for one in every:
                reached = {key(based(one, change)) for change in bases}
                for other in every:
                    if key(other) in reached:
                        self.check_alike(one, other)
                        yes += 1
                    else:
                        self.assertIsNone(alike(one, other))
                        no += 1
        self.assertGreater(yes, 100)
        self.assertGreater(no, 500)

    def test_other_bases(self):
        mixer = Mixer(104)
        for prime in PRIMES:
            for web in some_webs():
                picture = mixed_picture(mixer, web, prime, 3)
                self.check_alike(picture, picture)
                self.check_alike(picture, based(picture, mixed_bases(mixer, prime, picture.sizes)))
                pieces = some_pieces(mixer, web, prime, 3)
                one = beside(web, prime, pieces)
                other = beside(web, prime, pieces[::-1])
                self.check_alike(one, based(other, mixed_bases(mixer, prime, other.sizes)))

    def test_unlike_ones_with_the_same_sizes(self):
        mixer = Mixer(105)
        bar, ahead, behind_it = (Picture(line(">"), 5, sizes, (Table(5, sizes[0], ((1,) * sizes[0],) * sizes[1]),))
                                 for sizes in ((1, 1), (1, 0), (0, 1)))
        single = beside(line(">"), 5, [ahead, behind_it])
        self.assertIsNone(alike(bar, single))
        self.assertIsNone(alike(single, bar))
        self.assertIsNone(alike(beside(line(">"), 5, [bar, bar]), beside(line(">"), 5, [bar, single])))
        self.check_alike(beside(line(">"), 5, [bar, single]), beside(line(">"), 5, [behind_it, bar, ahead]))
        for prime in PRIMES:
            one = Picture(LOOP, prime, (2,), (plain(prime, 2),))
            slanted = Picture(LOOP, prime, (2,), (Table(prime, 2, ((1, 1), (0, 1))),))
            self.assertIsNone(alike(one, slanted))
            self.check_alike(slanted, based(slanted, (mixer.regular(prime, 2),)))
        # As many leadings lead between them either way, but one piece is another one.
        one, other = (Picture(LOOP, 7, (1,), (Table(7, 1, ((worth,),)),)) for worth in (3, 5))
        self.assertIsNone(alike(one, other))
        self.assertIsNone(alike(beside(LOOP, 7, [one, one, other]), beside(LOOP, 7, [one, other, other])))
        self.check_alike(beside(LOOP, 7, [one, one, other]), beside(LOOP, 7, [other, one, one]))

    def test_other_sizes_and_empty_ones(self):
        mixer = Mixer(106)
        for web in some_webs():
            empty = beside(web, 3, ())
            self.check_alike(empty, empty)
            picture = mixed_picture(mixer, web, 3, sizes=(1,) * web.many)
            self.assertIsNone(alike(empty, picture))
            self.assertIsNone(alike(picture, empty))
            self.assertIsNone(alike(picture, beside(web, 3, [picture, picture])))
        web = Web(2, ())
        self.assertIsNone(alike(Picture(web, 2, (1, 0), ()), Picture(web, 2, (0, 1), ())))

    def test_sizes_beyond_the_bounds(self):
        mixer = Mixer(107)
        for prime in (2, 11):
            for web, sizes in ((LOOP, (4,)), (line("<>"), (4, 4, 4)), (RING, (3, 3))):
                pictures = [mixed_picture(mixer, web, prime, sizes=sizes) for _ in range(3)]
                one = beside(web, prime, pictures)
                other = based(beside(web, prime, pictures[::-1]), mixed_bases(mixer, prime, one.sizes))
                self.check_alike(one, other)

    def test_other_web(self):
        for one, other in unlike_pairs():
            self.raises("OtherWeb", alike, one, other)
        for web in some_webs()[:4]:
            self.raises("OtherWeb", alike, beside(web, 2, ()), beside(web, 3, ()))


class Matched(Checks, unittest.TestCase):

    def check_matched(self, pieces, others):
        order = self.same_twice(matched, pieces, others)
        self.assertIsInstance(order, tuple)
        self.assertEqual(sorted(order), list(range(len(pieces))))
        for piece, at in zip(pieces, order):
            self.assertIs(at.__class__, int)
            self.assertIsNotNone(alike(piece, others[at]))

    def test_orders(self):
        mixer = Mixer(108)
        one, other, third = (Picture(LOOP, 5, (1,), (Table(5, 1, ((worth,),)),)) for worth in (0, 2, 3))
        for pieces in ([], [one], [one, other], [one, one], [one, other, third], [one, other, one], [one, one, other, one]):
            for others in permutations(pieces):
                self.check_matched(pieces, others)
                self.check_matched(others, list(pieces))
                self.check_matched(tuple(pieces), list(others))
        self.assertEqual(matched([one, other, third], (third, one, other)), (1, 2, 0))
        self.check_matched([one] * 12, [one] * 12)
        for prime in PRIMES:
            for web in some_webs():
                pieces = some_pieces(mixer, web, prime, 3) * 2
                others = [based(piece, mixed_bases(mixer, prime, piece.sizes)) for piece in pieces]
                others = others[2:] + others[:2]
                self.check_matched(pieces, others)

    def test_none(self):
        one, other, third = (Picture(LOOP, 5, (1,), (Table(5, 1, ((worth,),)),)) for worth in (0, 2, 3))
        for pieces, others in [([one], []), ([], (one,)), ([one], [other]), ([one, one], [one, other]),
                               ([one, other], [one, one]), ([one, other], [one, third]), ([one] * 3, [one] * 2),
                               ([one] * 11, [one] * 12), ([one, other, other], [one, one, other])]:
            self.assertIsNone(self.same_twice(matched, pieces, others))
        double = Picture(LOOP, 5, (2,), (companion(5, (4, 3, 1)),))
        self.assertIs(is_piece(double), True)
        self.assertIsNone(matched([double], [one]))

    def test_both_empty(self):
        for pieces, others in [((), ()), ([], []), ((), []), ([], ())]:
            self.assertEqual(matched(pieces, others), ())

    def test_no_pieces_ahead_of_other_web(self):
        one = Picture(LOOP, 5, (1,), (plain(5, 1),))
        two = beside(LOOP, 5, [one, one])
        empty = beside(LOOP, 5, ())
        elsewhere = Picture(line(">"), 5, (1, 0), (nought(5, 0, 1),))
        wrong = [two, [two], [empty], [one, two], (one, empty), [one] * 13, (one,) * 13, {0: one}, one, [one, None], (None,),
                 [[one]], [LOOP], [plain(5, 1)], "one", range(0), {}, "", b"", None]
        for thing in wrong + more_odd_things() + far_numbers():
            if thing in ([], ()):
                continue
            self.raises("NoPieces", matched, thing, [one])
            self.raises("NoPieces", matched, [one], thing)
            self.raises("NoPieces", matched, thing, thing)
            self.raises("NoPieces", matched, [one, elsewhere], thing)
            self.raises("NoPieces", matched, thing, [one, elsewhere])
            self.raises("NoPieces", matched, [], thing)
            self.raises("NoPieces", matched, thing, [])
            if thing is not one:
                self.raises("NoPieces", matched, [one], [one, thing])

    def test_other_web(self):
        one = Picture(line(">"), 5, (1, 0), (nought(5, 0, 1),))
        others = [Picture(line("<"), 5, (1, 0), (nought(5, 1, 0),)), Picture(line(">"), 2, (1, 0), (nought(2, 0, 1),)),
                  Picture(Web(1, ()), 5, (1,), ()), Picture(Web(2, ()), 5, (1, 0), ())]
        for other in others:
            for pieces, more in [([one], [other]), ([one, other], []), ((), (one, other)), ([one, one], [one, other]),
                                 ([other, one], [one, one]), ([one], [other, other]), ([one] * 11 + [other], [one])]:
                self.raises("OtherWeb", matched, pieces, more)
                self.raises("OtherWeb", matched, more, pieces)


if __name__ == "__main__":
    unittest.main()
