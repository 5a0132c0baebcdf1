"""7.1 and 7.2: turns of pictures, what they lose, turned leadings."""

import unittest
from itertools import product

from mapwebs.leadings import back, behind, is_leading, leadings, many_leadings
from mapwebs.partings import alike
from mapwebs.pictures import Picture, based, beside
from mapwebs.seals import is_piece
from mapwebs.tables import Table, kernel, nought, plain, times
from mapwebs.turns import lost, turn, turned_leading
from mapwebs.webs import Web, line, turned_web
from samples import PRIMES, Checks, Mixer, far_numbers, is_reduced, span, tables
from test_leadings import unlike_pairs
from test_pictures import mixed_picture, more_odd_things

TWICE = Web(4, ((0, 1), (2, 1), (0, 1), (3, 2), (0, 3)))
STAR = Web(5, ((1, 0), (2, 0), (0, 3), (4, 4)))
APART = Web(3, ((0, 1),))


def turns_of(web):
    """All places that are an END or a BEGIN, with which of them."""
    for place in range(web.many):
        begins = any(begin == place for begin, end in web.arrows)
        ends = any(end == place for begin, end in web.arrows)
        if not (begins and ends):
            yield place, not begins


def webs():
    return [Web(1, ()), line(">"), line("<"), line("><"), line("<>"), line(">>><"), TWICE, STAR, APART,
            Web(2, ((0, 1),) * 3), Web(3, ((1, 0), (1, 2), (1, 0), (2, 0)))]


def alone(web, prime, place):
    """The picture with size 1 at the place and 0 elsewhere."""
    sizes = tuple(int(k == place) for k in range(web.many))
    return Picture(web, prime, sizes, tuple(nought(prime, sizes[b], sizes[a]) for a, b in web.arrows))


def kernel_by_words(prime, rows, wide):
    """All columns that these rows lead to noughts."""
    return {column for column in product(range(prime), repeat=wide)
            if all(sum(x * y for x, y in zip(row, column)) % prime == 0 for row in rows)}


class Turned(Checks, unittest.TestCase):

    def expected(self, picture, place, end):
        """The columns of which 7.1 speaks, and where each arrow's part of them stands."""
        at_place = [k for k, arrow in enumerate(picture.web.arrows) if place in arrow]
        parts, start = {}, 0
        for k in at_place:
            begin, stop = picture.web.arrows[k]
            many = picture.sizes[begin if end else stop]
            parts[k] = (start, start + many)
            start += many
        if end:
            rows = [sum([picture.tables[k].rows[i] for k in at_place], ()) for i in range(picture.sizes[place])]
        else:
            beneath = [row for k in at_place for row in picture.tables[k].rows]
            rows = [tuple(row[j] for row in beneath) for j in range(picture.sizes[place])]
        return parts, rows, start

    def test_by_the_words(self):
        mixer = Mixer(80)
        for prime in PRIMES:
            for web in webs():
                for place, end in turns_of(web):
                    for _ in range(4):
                        picture = mixed_picture(mixer, web, prime, 3)
                        found = self.same_twice(turn, picture, place)
                        parts, rows, wide = self.expected(picture, place, end)
                        columns = kernel(Table(prime, wide, tuple(rows)))
                        self.assertEqual(found.web, turned_web(web, place))
                        self.assertEqual(found.prime, prime)
                        self.assertEqual(found.sizes, picture.sizes[:place] + (len(columns),) + picture.sizes[place + 1:])
                        for k, arrow in enumerate(web.arrows):
                            if k not in parts:
                                self.assertEqual(found.tables[k], picture.tables[k])
                                continue
                            start, stop = parts[k]
                            pieces = [column[start:stop] for column in columns]
                            if end:
                                pieces = [tuple(piece[i] for piece in pieces) for i in range(stop - start)]
                                self.assertEqual(found.tables[k], Table(prime, len(columns), tuple(pieces)))
                            else:
                                self.assertEqual(found.tables[k], Table(prime, stop - start, tuple(pieces)))
                        self.assertEqual(found, Picture(found.web, prime, found.sizes, found.tables)
                                         if max(found.sizes) <= 6 else found)

    def test_columns_gone_through(self):
        mixer = Mixer(81)
        for prime in (2, 3):
            for web in webs():
                for place, end in turns_of(web):
                    for _ in range(6):
                        picture = mixed_picture(mixer, web, prime, 2)
                        parts, rows, wide = self.expected(picture, place, end)
                        if wide > 7:
                            continue
                        found = turn(picture, place)
                        whole = [[0] * wide for _ in range(found.sizes[place])]
                        for k, (start, stop) in parts.items():
                            for i in range(found.sizes[place]):
                                for j in range(start, stop):
                                    table = found.tables[k].rows
                                    whole[i][j] = table[j - start][i] if end else table[i][j - start]
                        self.assertTrue(is_reduced(whole))
                        self.assertEqual(span(prime, wide, whole), kernel_by_words(prime, rows, wide))

    def test_e06(self):
        one = Table(2, 1, ((1,),))
        picture = Picture(Web(3, ((0, 1), (2, 1))), 2, (1, 1, 1), (one, one))
        self.assertEqual(turn(picture, 1).sizes, (1, 1, 1))
        self.assertEqual(turn(picture, 1).web.arrows, ((1, 0), (1, 2)))
        self.assertEqual(lost(picture, 1), 0)

    def test_order_of_arrows_and_contraries(self):
        web = Web(3, ((2, 1), (0, 1)))
        picture = Picture(web, 3, (1, 1, 1), (Table(3, 1, ((1,),)), Table(3, 1, ((2,),))))
        found = turn(picture, 1)
        self.assertEqual([table.rows for table in found.tables], [((1,),), ((1,),)])
        picture = Picture(Web(3, ((1, 2), (1, 0))), 3, (1, 1, 1), (Table(3, 1, ((2,),)), Table(3, 1, ((2,),))))
        self.assertEqual([table.rows for table in turn(picture, 1).tables], [((1,),), ((2,),)])
        picture = Picture(line(">"), 5, (3, 2), (Table(5, 3, ((1, 0, 2), (0, 1, 3))),))
        self.assertEqual(turn(picture, 1).tables, (Table(5, 1, ((1,), (4,), (2,))),))
        self.assertEqual(turn(picture, 0), Picture(line("<"), 5, (0, 2), (Table(5, 2, ()),)))

    def test_places_without_arrows(self):
        for prime in PRIMES:
            for size in range(7):
                picture = Picture(Web(2, ((0, 0),)), prime, (1, size), (plain(prime, 1),))
                self.assertEqual(turn(picture, 1), Picture(picture.web, prime, (1, 0), picture.tables))
                self.assertEqual(lost(picture, 1), size)

    def test_sizes_beyond_the_bounds(self):
        web = Web(4, ((0, 3), (1, 3), (2, 3)))
        picture = Picture(web, 2, (6, 6, 6, 0), (nought(2, 0, 6),) * 3)
        found = turn(picture, 3)
        self.assertEqual(found.sizes, (6, 6, 6, 18))
        self.assertEqual(lost(found, 3), 0)
        self.assertEqual(lost(found, 0), 0)
        self.assertEqual(turn(found, 3).sizes, (6, 6, 6, 0))
        self.assertEqual(turn(found, 0).sizes, (12, 6, 6, 18))
        self.assertEqual(turn(turn(found, 0), 0).sizes, (6, 6, 6, 18))
        mixer = Mixer(82)
        double = beside(web, 3, [mixed_picture(mixer, web, 3, sizes=(4, 3, 4, 6)) for _ in range(3)])
        self.assertEqual(lost(double, 3), 18 - 33 + turn(double, 3).sizes[3])

    def test_no_turn(self):
        picture = Picture(STAR, 3, (1,) * 5, (plain(3, 1),) * 4)
        for thing in more_odd_things() + far_numbers() + [0, 4, 5, 8]:
            self.raises("NoTurn", turn, picture, thing)
            self.raises("NoTurn", lost, picture, thing)
            self.raises("NoTurn", turned_leading, picture, picture, thing, thing)
        for thing in more_odd_things() + far_numbers() + [1]:
            self.raises("NoTurn", turn, Picture(Web(1, ()), 2, (1,), ()), thing)


class Lost(Checks, unittest.TestCase):

    def test_by_the_words(self):
        mixer = Mixer(83)
        for prime in (2, 3):
            for web in webs():
                for place, end in turns_of(web):
                    for _ in range(6):
                        picture = mixed_picture(mixer, web, prime, 2)
                        reached = {(0,) * picture.sizes[place]}
                        kept = set(product(range(prime), repeat=picture.sizes[place]))
                        for k, arrow in enumerate(web.arrows):
                            if place in arrow and end:
                                columns = [tuple(row[j] for row in picture.tables[k].rows)
                                           for j in range(picture.tables[k].wide)]
                                reached = {tuple((x + y) % prime for x, y in zip(one, other)) for one in reached
                                           for other in span(prime, picture.sizes[place], columns)}
                            elif place in arrow:
                                kept &= kernel_by_words(prime, picture.tables[k].rows, picture.sizes[place])
                        found = self.same_twice(lost, picture, place)
                        if end:
                            self.assertEqual(len(reached) * prime ** found, prime ** picture.sizes[place])
                        else:
                            self.assertEqual(len(kept), prime ** found)

    def test_the_seventh_fact(self):
        mixer = Mixer(84)
        for prime in (2, 3, 13):
            for web in webs():
                for place, end in turns_of(web):
                    for _ in range(3):
                        picture = mixed_picture(mixer, web, prime, 3)
                        found = turn(picture, place)
                        single = alone(web, prime, place)
                        again = turn(found, place)
                        whole = beside(web, prime, [again] + [single] * lost(picture, place))
                        self.assertEqual(whole.web, web)
                        self.assertIsNotNone(alike(picture, whole))
                        around = sum(picture.sizes[a if b == place else b] for a, b in web.arrows if place in (a, b))
                        self.assertEqual(found.sizes[place], around - (picture.sizes[place] - lost(picture, place)))
                        if is_piece(picture):
                            self.assertEqual(is_piece(found), picture.sizes != single.sizes)
                            self.assertEqual(lost(picture, place), int(picture.sizes == single.sizes))
                    self.assertEqual(sum(turn(single, place).sizes), 0)
                    self.assertEqual(lost(single, place), 1)


class TurnedLeadings(Checks, unittest.TestCase):

    def pairs(self, mixer, most=3):
        for prime in (2, 3, 7):
            for web in webs():
                for place, end in turns_of(web):
                    one, other = mixed_picture(mixer, web, prime, most), mixed_picture(mixer, web, prime, most)
                    yield one, other, place
                    yield one, one, place
                    yield one, based(one, tuple(mixer.regular(prime, size) for size in one.sizes)), place

    def test_they_lead_and_have_the_same_tables(self):
        seen = 0
        for one, other, place in self.pairs(Mixer(85)):
            for leading in leadings(one, other)[:5]:
                found = self.same_twice(turned_leading, one, other, leading, place)
                self.assertIsInstance(found, tuple)
                self.assertEqual(found[:place], leading[:place])
                self.assertEqual(found[place + 1:], leading[place + 1:])
                self.assertTrue(is_leading(turn(one, place), turn(other, place), found))
                seen += leading[place] != found[place]
        self.assertGreater(seen, 100)

    def test_there_is_just_one(self):
        mixer = Mixer(86)
        for one, other, place in self.pairs(mixer, 2):
            first, second = turn(one, place), turn(other, place)
            high, wide = second.sizes[place], first.sizes[place]
            if one.prime ** (high * wide) > 700:
                continue
            for leading in leadings(one, other)[:2]:
                found = turned_leading(one, other, leading, place)
                right = [table for table in tables(one.prime, high, wide)
                         if is_leading(first, second, leading[:place] + (table,) + leading[place + 1:])]
                self.assertEqual(right, [found[place]])

    def test_behind_one_another_and_back(self):
        mixer = Mixer(87)
        for one, other, place in self.pairs(mixer):
            third = mixed_picture(mixer, one.web, one.prime, 2)
            for first in leadings(one, other)[:3]:
                for second in leadings(other, third)[:3]:
                    self.assertEqual(turned_leading(one, third, behind(first, second), place),
                                     behind(turned_leading(one, other, first, place),
                                            turned_leading(other, third, second, place)))
            bases = tuple(mixer.regular(one.prime, size) for size in one.sizes)
            changed = based(one, bases)
            found = turned_leading(one, changed, bases, place)
            self.assertEqual(turned_leading(changed, one, back(bases), place), back(found))
            self.assertEqual(turned_leading(one, one, tuple(plain(one.prime, size) for size in one.sizes), place),
                             tuple(times(x, y) for x, y in zip(back(found), found)))

    def test_as_many_where_nothing_is_lost(self):
        seen = 0
        for one, other, place in self.pairs(Mixer(88)):
            if lost(one, place) == 0 and lost(other, place) == 0:
                self.assertEqual(many_leadings(one, other), many_leadings(turn(one, place), turn(other, place)))
                seen += one.sizes[place] > 0 and other.sizes[place] > 0
        self.assertGreater(seen, 20)

    def test_refusals_in_order(self):
        for one, other in unlike_pairs():
            for thing in (None, (), (plain(3, 1), plain(3, 1))):
                for place in (0, 1, 99, None):
                    self.raises("OtherWeb", turned_leading, one, other, thing, place)
        one = Picture(line(">>"), 3, (1, 2, 1), (Table(3, 1, ((1,), (2,))), Table(3, 2, ((1, 1),))))
        good = tuple(plain(3, size) for size in one.sizes)
        for place in (1, 3, -1, True, None):
            self.raises("NoTurn", turned_leading, one, one, good, place)
            self.raises("NoTurn", turned_leading, one, one, None, place)
        wrong = [good[:2], good + good[:1], list(good), (nought(3, 1, 1),) + good[1:],
                 (plain(2, 1),) + good[1:], (None,) + good[1:], (good[0].rows,) + good[1:]]
        for thing in wrong + more_odd_things() + far_numbers():
            for place in (0, 2):
                self.raises("NoLeading", turned_leading, one, one, thing, place)
        empty = beside(line(">>"), 3, ())
        self.raises("NoLeading", turned_leading, one, empty, good, 0)
        self.raises("NoLeading", turned_leading, one, one, (nought(3, 1, 1), nought(3, 2, 2), plain(3, 1)), 2)


if __name__ == "__main__":
    unittest.main()
