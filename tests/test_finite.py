"""5.3 and 5.4: pieces of finite webs, how many leadings there are between them, counts."""

import unittest
from collections import Counter

from mapwebs.finite import counts, leadings_told, piece_of
from mapwebs.forms import euler, rows
from mapwebs.leadings import many_leadings
from mapwebs.partings import alike, parting
from mapwebs.pictures import Picture, based, beside
from mapwebs.seals import is_piece
from mapwebs.tables import Table, nought
from mapwebs.webs import Web, line
from samples import PRIMES, Checks, Mixer, far_numbers
from test_forms import arms, every_way, mixed_web
from test_partings import mixed_bases
from test_pictures import mixed_picture, more_odd_things

ENDLESS = [Web(1, ((0, 0),)), Web(2, ((0, 1), (0, 1))), Web(3, ((0, 1), (1, 2), (2, 0))), arms(1, 1, 1, 1),
           Web(3, ((0, 1), (2, 2)))]


def small_finite_webs():
    return [Web(1, ()), Web(3, ()), line(">"), line("<<"), line("><>"), arms(1, 1, 1), arms(1, 1, 2),
            Web(5, ((3, 1), (1, 0), (4, 2)))]


class Pieces(Checks, unittest.TestCase):

    def check(self, web, prime, row):
        piece = piece_of(web, prime, row)
        self.assertEqual((piece.web, piece.prime, piece.sizes), (web, prime, row))
        self.assertIs(piece.sizes.__class__, tuple)
        self.assertEqual(piece, Picture(web, prime, row, piece.tables))
        self.assertEqual(many_leadings(piece, piece), 1)
        return piece

    def test_each_row_of_small_webs(self):
        mixer = Mixer(110)
        for start in small_finite_webs():
            for web in (start, mixed_web(mixer, start)):
                for prime in PRIMES:
                    for row in rows(web):
                        self.assertIs(is_piece(self.check(web, prime, row)), True)
        for web in every_way(arms(1, 1, 1)):
            for row in rows(web):
                self.assertIs(is_piece(self.check(web, 3, row)), True)

    def test_each_row_of_e(self):
        mixer = Mixer(111)
        for web, step in ((arms(1, 2, 2), 1), (arms(1, 2, 3), 3), (arms(1, 2, 4), 5), (arms(1, 1, 5), 5)):
            web = mixed_web(mixer, web)
            for row in rows(web)[::step] + rows(web)[-1:]:
                self.check(web, PRIMES[sum(row) % 6], row)
        web = arms(1, 2, 4)
        for prime in PRIMES:
            piece = self.check(web, prime, (6, 3, 4, 2, 5, 4, 3, 2))
            self.assertIs(is_piece(piece), True)
            self.assertEqual(self.same_twice(piece_of, web, prime, piece.sizes), piece)

    def test_all_pieces_with_these_sizes_are_alike(self):
        mixer = Mixer(112)
        seen = 0
        for start in small_finite_webs():
            for _ in range(60):
                web = mixed_web(mixer, start)
                picture = mixed_picture(mixer, web, 2, sizes=rows(web)[mixer.below(len(rows(web)))])
                if is_piece(picture):
                    self.assertIsNotNone(alike(picture, piece_of(web, 2, picture.sizes)))
                    seen += sum(picture.sizes) > 1
        self.assertGreater(seen, 60)

    def test_errors_in_order(self):
        web = line("><")
        for thing in more_odd_things() + far_numbers() + [0, 1, 4, 14]:
            self.raises("NoPrime", piece_of, web, thing, (1, 1, 1))
            self.raises("NoPrime", piece_of, web, thing, thing)
            for other in ENDLESS[:2]:
                self.raises("NoPrime", piece_of, other, thing, thing)
        for other in ENDLESS:
            for thing in [(1,) * other.many, (0,) * other.many, None, "", 7]:
                self.raises("Endless", piece_of, other, 3, thing)
        wrong = [(0, 0, 0), (1, 0, 1), (2, 1, 1), (1, 1), (1, 1, 1, 0), [1, 1, 1], (1, True, 1), (True, True, True),
                 (False, 0, 1), (-1, 0, 0), (1, 1, None), ((1,), 1, 1), "111", b"111", {0: 1, 1: 1, 2: 1}, range(1, 2)]
        for thing in wrong + more_odd_things() + far_numbers():
            self.raises("NoRow", piece_of, web, 3, thing)
        self.raises("NoRow", piece_of, Web(1, ()), 3, (True,))
        self.raises("NoRow", piece_of, Web(1, ()), 3, (2,))


class Told(Checks, unittest.TestCase):

    def test_against_many_leadings(self):
        mixer = Mixer(113)
        seen = Counter()
        for number, start in enumerate(small_finite_webs()):
            web = mixed_web(mixer, start)
            for prime in (PRIMES[number % 6], 2):
                for one in rows(web):
                    for other in rows(web):
                        found = leadings_told(web, one, other)
                        expected = many_leadings(piece_of(web, prime, one), piece_of(web, prime, other))
                        self.assertEqual(found, expected)
                        self.assertEqual(found, max(euler(web, one, other), 0))
                        seen[found] += 1
        self.assertGreater(seen[0], 50)
        self.assertGreater(seen[1], 50)

    def test_of_e(self):
        mixer = Mixer(114)
        seen = Counter()
        for web in (arms(1, 2, 2), arms(1, 2, 4)):
            web = mixed_web(mixer, web)
            known = rows(web)
            for _ in range(40):
                one, other = known[mixer.below(len(known))], known[mixer.below(len(known))]
                found = self.same_twice(leadings_told, web, one, other)
                self.assertEqual(found, many_leadings(piece_of(web, 3, one), piece_of(web, 3, other)))
                seen[found > 1] += 1
        self.assertGreater(seen[True], 0)

    def test_e04(self):
        web = Web(3, ((0, 1), (2, 1)))
        self.assertEqual(leadings_told(web, (0, 1, 0), (1, 1, 1)), 1)
        self.assertEqual(leadings_told(web, (1, 1, 1), (0, 1, 0)), 0)

    def test_errors_in_order(self):
        web = line("><")
        for other in ENDLESS:
            for thing in [(1,) * other.many, (0,) * other.many, None]:
                self.raises("Endless", leadings_told, other, thing, thing)
        for thing in [(0, 0, 0), (1, 0, 1), [1, 1, 1], (1, 1), (True, 1, 1), (1, 1, False)] + more_odd_things():
            self.raises("NoRow", leadings_told, web, thing, (1, 1, 1))
            self.raises("NoRow", leadings_told, web, (1, 1, 1), thing)
            self.raises("NoRow", leadings_told, web, thing, thing)


class Counts(Checks, unittest.TestCase):

    def test_pieces_put_together_in_other_bases(self):
        mixer = Mixer(115)
        webs = small_finite_webs() + [arms(1, 2, 2), Web(7, ((0, 1), (2, 1), (3, 1), (5, 4), (5, 6)))]
        for prime in (2, 3, 13):
            for start in webs:
                web = mixed_web(mixer, start)
                known = rows(web)
                chosen = [known[mixer.below(len(known))] for _ in range(3)]
                chosen = chosen + chosen[:1] * mixer.below(3)
                whole = beside(web, prime, [piece_of(web, prime, row) for row in chosen])
                picture = based(whole, mixed_bases(mixer, prime, whole.sizes))
                found = self.same_twice(counts, picture)
                self.assertIs(found.__class__, dict)
                self.assertEqual(found, dict(Counter(chosen)))
                for row, many in found.items():
                    self.assertEqual((row.__class__, many.__class__), (tuple, int))

    def test_against_partings(self):
        mixer = Mixer(116)
        for prime in PRIMES:
            for start in small_finite_webs():
                picture = mixed_picture(mixer, mixed_web(mixer, start), prime, 3)
                self.assertEqual(counts(picture), dict(Counter(piece.sizes for piece in parting(picture)[0])))

    def test_larger_ones(self):
        mixer = Mixer(117)
        for start in (arms(1, 2, 4), arms(1, 1, 4), line("><<>>><")):
            web = mixed_web(mixer, start)
            known = rows(web)
            chosen = [known[mixer.below(len(known))] for _ in range(5)]
            whole = beside(web, 3, [piece_of(web, 3, row) for row in chosen])
            picture = based(whole, mixed_bases(mixer, 3, whole.sizes))
            self.assertEqual(counts(picture), dict(Counter(chosen)))

    def test_the_fifth_fact(self):
        mixer = Mixer(118)
        same = other = 0
        for web in (line("><"), arms(1, 1, 1), Web(3, ())):
            pieces = [piece_of(web, 2, row) for row in rows(web)]
            for _ in range(40):
                sizes = tuple(1 + mixer.below(2) for _ in range(web.many))
                one, two = mixed_picture(mixer, web, 2, sizes=sizes), mixed_picture(mixer, web, 2, sizes=sizes)
                told = [many_leadings(piece, one) == many_leadings(piece, two) for piece in pieces]
                self.assertEqual(all(told), counts(one) == counts(two))
                self.assertEqual(all(told), alike(one, two) is not None)
                same, other = same + all(told), other + (not all(told))
        self.assertGreater(same, 10)
        self.assertGreater(other, 10)

    def test_empty_ones_and_new_dicts(self):
        for web in small_finite_webs():
            empty = beside(web, 5, ())
            self.assertEqual(counts(empty), {})
            counts(empty)[(1,)] = 7
            self.assertEqual(counts(empty), {})
        picture = Picture(line(">"), 2, (2, 1), (Table(2, 2, ((1, 0),)),))
        self.assertEqual(counts(picture), {(1, 0): 1, (1, 1): 1})
        self.assertEqual(counts(Picture(Web(2, ()), 3, (6, 2), ())), {(1, 0): 6, (0, 1): 2})

    def test_endless(self):
        for web in ENDLESS:
            self.raises("Endless", counts, beside(web, 3, ()))
            self.raises("Endless", counts, Picture(web, 3, (1,) * web.many, (nought(3, 1, 1),) * len(web.arrows)))


if __name__ == "__main__":
    unittest.main()
