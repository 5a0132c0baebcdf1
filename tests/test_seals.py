"""4.1: pieces and seals, against what the words say, gone through for small pictures."""

import unittest
from itertools import product

from mapwebs.leadings import is_leading, leadings, many_leadings
from mapwebs.pictures import Picture, based, beside
from mapwebs.polynomials import companion, factors, least_polynomial
from mapwebs.polynomials import product as product_of_polynomials
from mapwebs.seals import is_piece, is_seal, seal
from mapwebs.tables import Table, corner, nought, plain, scaled, undone
from mapwebs.webs import Web, line
from samples import PRIMES, Checks, Mixer, far_numbers, is_reduced, span, tables
from test_leadings import as_row
from test_pictures import RING, mixed_picture, more_odd_things
from test_polynomials import prime_polynomials

LOOP = Web(1, ((0, 0),))
TWO_LOOPS = Web(1, ((0, 0), (0, 0)))
PENCIL = Web(2, ((0, 1), (0, 1)))
BOTH_WAYS = Web(2, ((0, 1), (1, 0)))
LOOP_AND_ARROW = Web(2, ((0, 0), (0, 1)))

# Webs and primes, each with the sizes that are gone through whole.
WHOLE = [
    (Web(1, ()), 2, [(0,), (1,), (2,), (3,)]), (Web(1, ()), 3, [(0,), (1,), (2,)]),
    (Web(2, ()), 2, [(0, 0), (1, 0), (0, 1), (1, 1), (0, 2)]),
    (LOOP, 2, [(0,), (1,), (2,), (3,)]), (LOOP, 3, [(0,), (1,), (2,)]),
    (TWO_LOOPS, 2, [(1,), (2,)]), (TWO_LOOPS, 3, [(1,)]),
    (line(">"), 2, [(0, 0), (1, 0), (0, 1), (1, 1), (2, 1), (1, 2), (2, 2), (0, 2)]),
    (line("<"), 3, [(0, 0), (1, 1), (2, 1), (1, 2)]),
    (PENCIL, 2, [(0, 1), (1, 1), (2, 1), (1, 2), (2, 2)]), (PENCIL, 3, [(1, 1), (2, 1), (1, 2)]),
    (BOTH_WAYS, 2, [(1, 1), (2, 1), (2, 2)]), (BOTH_WAYS, 3, [(1, 1), (1, 2)]),
    (LOOP_AND_ARROW, 2, [(1, 0), (0, 1), (1, 1), (2, 1), (1, 2), (2, 2)]), (LOOP_AND_ARROW, 3, [(1, 1), (2, 1)]),
    (line(">>"), 2, [(1, 1, 1), (1, 2, 1), (0, 1, 1), (1, 0, 1)]), (line("><"), 3, [(1, 1, 1), (1, 0, 1)]),
    (line("><"), 2, [(1, 1, 1), (1, 2, 1), (0, 0, 0)]), (RING, 2, [(1, 1), (1, 2)]),
    (Web(3, ((0, 1), (1, 2), (2, 0))), 2, [(1, 1, 1), (2, 1, 1)]),
]


def every_picture(web, prime, sizes):
    for found in product(*[tables(prime, sizes[b], sizes[a]) for a, b in web.arrows]):
        yield Picture(web, prime, sizes, found)


def key(picture):
    return tuple(table.rows for table in picture.tables)


def apart(web, prime, sizes):
    """The keys of all pictures alike to two beside one another, neither of them empty."""
    regular = [[table for table in tables(prime, size, size) if undone(table) is not None] for size in sizes]
    bases = list(product(*regular))
    found = set()
    for ahead in product(*[range(size + 1) for size in sizes]):
        rest = tuple(size - taken for size, taken in zip(sizes, ahead))
        if any(ahead) and any(rest) and ahead <= rest:
            for one in every_picture(web, prime, ahead):
                for other in every_picture(web, prime, rest):
                    double = beside(web, prime, (one, other))
                    if key(double) not in found:
                        found.update(key(based(double, change)) for change in bases)
    return found


def multiplied(prime, one, other):
    """Tuples of lists of rows, behind one another with plain sums: other first."""
    return tuple(tuple(tuple(sum(row[k] * b[k][j] for k in range(len(b))) % prime for j in range(len(b)))
                       for row in a) for a, b in zip(one, other))


def rows_of(leading):
    return tuple(table.rows for table in leading)


def flat(thing):
    return tuple(worth for rows in thing for row in rows for worth in row)


def nilpotent(prime, sizes, things):
    """Whether as many as all sizes together always come to noughts: the span of products."""
    length = sum(size * size for size in sizes)
    products = [tuple(tuple(tuple(int(i == j) for j in range(size)) for i in range(size)) for size in sizes)]
    for _ in range(sum(sizes)):
        longer = {}
        for one in products:
            for other in things:
                both = multiplied(prime, one, other)
                longer[flat(both)] = both
        chosen, reached = [], {(0,) * length}
        for row, both in longer.items():
            if row not in reached:
                chosen.append(both)
                reached |= {tuple((a + k * b) % prime for a, b in zip(old, row))
                            for old in reached for k in range(1, prime)}
        products = chosen
    return not products


class Definition:
    """What 4.1 says of a picture's seals, word by word, for triples of the right form."""

    def __init__(self, picture):
        self.picture = picture
        self.own = leadings(picture, picture)
        self.prime = picture.prime
        self.length = sum(size * size for size in picture.sizes)

    def all_own(self):
        rows = span(self.prime, self.length, [as_row(leading) for leading in self.own])
        return [self.leading(row) for row in sorted(rows)]

    def leading(self, row):
        found, start = [], 0
        for size in self.picture.sizes:
            lines = [row[start + k * size:start + (k + 1) * size] for k in range(size)]
            found.append(Table(self.prime, size, tuple(lines)))
            start += size * size
        return tuple(found)

    def is_seal(self, thing):
        ideal, turn, poly = thing
        rows = [as_row(leading) for leading in ideal]
        if not is_reduced(rows) or not all(is_leading(self.picture, self.picture, one) for one in ideal + (turn,)):
            return False
        whole = span(self.prime, self.length, rows)
        for one in self.own:
            for other in ideal:
                if flat(multiplied(self.prime, rows_of(one), rows_of(other))) not in whole:
                    return False
                if flat(multiplied(self.prime, rows_of(other), rows_of(one))) not in whole:
                    return False
        if not nilpotent(self.prime, self.picture.sizes, [rows_of(one) for one in ideal]):
            return False
        degree = len(poly) - 1
        if degree < 1 or degree + len(ideal) != len(self.own) or poly not in prime_polynomials(self.prime, degree):
            return False
        return self.at(poly, turn) in whole

    def at(self, poly, turn):
        sizes = self.picture.sizes
        power = tuple(tuple(tuple(int(i == j) for j in range(size)) for i in range(size)) for size in sizes)
        total = (0,) * self.length
        for worth in poly:
            total = tuple((a + worth * b) % self.prime for a, b in zip(total, flat(power)))
            power = multiplied(self.prime, power, rows_of(turn))
        return total


def regular_picture(prime, signs, many):
    """The picture of a product of rows: all that is done to them from the right, as loops."""
    loops = []
    units = [tuple(int(i == j) for j in range(many)) for i in range(many)]
    for right in units:
        images = [signs(left, right) for left in units]
        loops.append(Table(prime, many, tuple(tuple(image[i] for image in images) for i in range(many))))
    return Picture(Web(1, ((0, 0),) * many), prime, (many,), tuple(loops))


def over_four(one, other):
    """Products of (a, b) + (c, d) e over the field of four, where e t is t squared times e, e e is 0."""
    def field(x, y):
        return ((x[0] * y[0] + x[1] * y[1]) % 2, (x[0] * y[1] + x[1] * y[0] + x[1] * y[1]) % 2)

    def squared(x):
        return field(x, x)

    a, b, c, d = one[:2], one[2:], other[:2], other[2:]
    first, second, third = field(a, c), field(a, d), field(b, squared(c))
    return first + tuple((x + y) % 2 for x, y in zip(second, third))


class WholeSizes(Checks, unittest.TestCase):

    def test_seal_is_none_exactly_for_what_is_no_piece(self):
        pieces = others = 0
        for web, prime, all_sizes in WHOLE:
            for sizes in all_sizes:
                decomposed = apart(web, prime, sizes)
                for picture in every_picture(web, prime, sizes):
                    expected = any(sizes) and key(picture) not in decomposed
                    found = seal(picture)
                    self.assertEqual(found is not None, expected, (web.arrows, prime, sizes, key(picture)))
                    self.assertIs(is_piece(picture), expected)
                    if expected:
                        pieces += 1
                        self.assertIs(is_seal(picture, found), True)
                        self.assertTrue(Definition(picture).is_seal(found))
                        self.assertEqual(len(found[0]) + len(found[2]) - 1, many_leadings(picture, picture))
                    else:
                        others += 1
        self.assertGreater(pieces, 500)
        self.assertGreater(others, 1500)

    def test_pencils_over_three_by_leadings_that_are_their_own_squares(self):
        mixer = Mixer(50)
        for _ in range(700):
            picture = mixed_picture(mixer, PENCIL, 3, sizes=(2, 2))
            definition = Definition(picture)
            own = [rows_of(one) for one in definition.all_own()]
            still = [one for one in own if multiplied(3, one, one) == one]
            self.assertIs(is_piece(picture), len(still) == 2)

    def test_the_ideal_is_what_is_nought_behind_itself_often_enough(self):
        for web, prime, all_sizes in WHOLE:
            for sizes in all_sizes:
                for number, picture in enumerate(every_picture(web, prime, sizes)):
                    found = seal(picture) if number % 7 == 0 else None
                    if found is not None:
                        definition = Definition(picture)
                        expected = set()
                        for one in definition.all_own():
                            power = rows_of(one)
                            for _ in range(4):
                                power = multiplied(prime, power, power)
                            if not any(flat(power)):
                                expected.add(as_row(one))
                        rows = [as_row(one) for one in found[0]]
                        self.assertEqual(span(prime, definition.length, rows), expected)


class Seals(Checks, unittest.TestCase):

    def test_all_triples_of_small_pictures(self):
        mixer = Mixer(51)
        right = wrong = 0
        for web, prime, sizes in [(LOOP, 2, (2,)), (LOOP, 3, (1,)), (PENCIL, 2, (1, 1)), (PENCIL, 2, (2, 2)),
                                  (BOTH_WAYS, 2, (1, 1)), (line(">"), 2, (1, 1)), (Web(1, ()), 5, (1,)),
                                  (LOOP, 2, (3,)), (Web(2, ()), 2, (1, 1)), (TWO_LOOPS, 2, (2,))]:
            polys = [poly for degree in range(1, 4) for poly in product(range(prime), repeat=degree + 1) if poly[-1]]
            for _ in range(8):
                picture = mixed_picture(mixer, web, prime, sizes=sizes)
                definition = Definition(picture)
                own = definition.all_own()
                if len(own) > 9:
                    continue
                rows = [as_row(one) for one in own]
                ideals = [()] + [(row,) for row in rows] + [(a, b) for a in rows for b in rows if a > b]
                for ideal in ideals:
                    if is_reduced(ideal):
                        for turn in own:
                            for poly in polys:
                                thing = (tuple(definition.leading(row) for row in ideal), turn, poly)
                                expected = definition.is_seal(thing)
                                self.assertIs(is_seal(picture, thing), expected)
                                right, wrong = right + expected, wrong + (not expected)
        self.assertGreater(right, 50)
        self.assertGreater(wrong, 5000)

    def some_pieces(self):
        found = []
        for prime in PRIMES:
            poly = prime_polynomials(prime, 2)[1 % len(prime_polynomials(prime, 2))]
            double = product_of_polynomials(prime, poly, poly)
            found.append(Picture(LOOP, prime, (4,), (companion(prime, double),)))
            found.append(Picture(LOOP, prime, (3,), (companion(prime, (0, 0, 0, 1)),)))
            found.append(Picture(PENCIL, prime, (2, 2), (plain(prime, 2), companion(prime, poly))))
        found.append(regular_picture(2, over_four, 4))
        return found

    def test_each_part_spoilt(self):
        mixer = Mixer(52)
        for start in self.some_pieces():
            prime = start.prime
            change = tuple(mixer.regular(prime, size) for size in start.sizes)
            picture = based(start, change)
            found = self.same_twice(seal, picture)
            ideal, turn, poly = found
            self.assertTrue(ideal or len(poly) > 2)
            self.assertIs(self.same_twice(is_seal, picture, found), True)
            none = tuple(nought(prime, size, size) for size in picture.sizes)
            wrong = [list(found), found[:2], found + (0,), (), (list(ideal), turn, poly), (ideal, list(turn), poly),
                     (ideal, turn, list(poly)), (ideal, turn, ()), (ideal, turn, (1,)), (ideal, turn, poly[:-1]),
                     (ideal, turn, poly + (1,)), (ideal, turn, (0,) + poly), (ideal, turn, poly + (0,)),
                     (ideal, turn, ((poly[0] + 1) % prime,) + poly[1:]), (ideal, turn[:-1], poly),
                     (ideal, turn + turn[:1], poly), (ideal, None, poly), (ideal, turn, None), (None, turn, poly),
                     (ideal + (none,), turn, poly), (ideal + (none,), turn, poly[1:]), (turn, ideal, poly),
                     (ideal + ideal[:1], turn, poly) if ideal else 0, (ideal[1:], turn, poly) if ideal else 1,
                     (ideal[::-1], turn, poly) if len(ideal) > 1 else 2, (ideal[1:] + (none,), turn, poly) if ideal else 3]
            if prime > 2:
                wrong.append((ideal, turn, tuple(worth * 2 % prime for worth in poly)))
                doubled = tuple(tuple(scaled(table, 2) for table in one) for one in ideal)
                wrong.append((doubled, turn, poly) if ideal else 4)
            for thing in wrong:
                self.assertIs(self.same_twice(is_seal, picture, thing), False)
            self.spoilt_worths(picture, found)
            other = based(picture, tuple(mixer.regular(prime, size) for size in picture.sizes))
            definition = Definition(other)
            self.assertIs(is_seal(other, found), definition.is_seal(found))

    def spoilt_worths(self, picture, found):
        ideal, turn, poly = found
        for k, table in enumerate(turn):
            for i in range(table.high):
                for j in range(table.wide):
                    rows = [list(row) for row in table.rows]
                    rows[i][j] = (rows[i][j] + 1) % picture.prime
                    changed = Table(picture.prime, table.wide, tuple(tuple(row) for row in rows))
                    there = turn[:k] + (changed,) + turn[k + 1:]
                    expected = Definition(picture).is_seal((ideal, there, poly))
                    self.assertIs(is_seal(picture, (ideal, there, poly)), expected)
                    self.assertIs(is_seal(picture, ((there,) + ideal[1:], turn, poly)), False)

    def test_odd_things_are_no_seal(self):
        pictures = self.some_pieces()[:3] + [Picture(Web(1, ()), 2, (0,), ()), Picture(Web(1, ()), 2, (2,), ())]
        for picture in pictures:
            found = seal(picture) or ((), (), (0, 1))
            for thing in more_odd_things() + far_numbers():
                self.assertIs(self.same_twice(is_seal, picture, thing), False)
                for at in range(3):
                    if thing != found[at]:
                        spoilt = found[:at] + (thing,) + found[at + 1:]
                        self.assertIs(is_seal(picture, spoilt), False)
                self.assertIs(is_seal(picture, ((thing,) * max(1, len(found[0])), found[1], found[2])), False)
                self.assertIs(is_seal(picture, (found[0], (thing,), found[2])), False)
                self.assertIs(is_seal(picture, (found[0], found[1], (thing, 1))), False)

    def test_no_seal_of_what_is_no_piece(self):
        empty = Picture(RING, 3, (0, 0), (nought(3, 0, 0),) * 3)
        self.assertIsNone(seal(empty))
        for poly in ((1,), (0, 1), ()):
            self.assertIs(is_seal(empty, ((), (nought(3, 0, 0),) * 2, poly)), False)
        two = Picture(Web(1, ()), 3, (2,), ())
        for ideal in [(), ((Table(3, 2, ((0, 1), (0, 0))),),)]:
            for poly in ((0, 1), (1, 0, 1), (1, 2, 0, 1), (2, 1, 0, 0, 1)):
                self.assertIs(is_seal(two, (ideal, (nought(3, 2, 2),), poly)), False)
        split = Picture(LOOP, 2, (2,), (Table(2, 2, ((0, 0), (0, 1))),))
        self.assertEqual(many_leadings(split, split), 2)
        self.assertIs(is_seal(split, ((), split.tables, (0, 1, 1))), False)
        self.assertIs(is_seal(split, ((split.tables,), split.tables, (0, 1))), False)


class Pieces(Checks, unittest.TestCase):

    def test_powers_of_prime_polynomials_on_a_loop(self):
        mixer = Mixer(53)
        for prime in PRIMES:
            for degree in range(1, 7):
                for _ in range(6):
                    poly = mixer.column(prime, degree) + (1,)
                    picture = Picture(LOOP, prime, (degree,), (companion(prime, poly),))
                    picture = based(picture, (mixer.regular(prime, degree),))
                    pairs = factors(prime, poly)
                    found = seal(picture)
                    if len(pairs) > 1:
                        self.assertIsNone(found)
                    else:
                        self.assertEqual(len(found[2]), len(pairs[0][0]))
                        self.assertEqual(len(found[0]), degree - len(pairs[0][0]) + 1)
                        self.assertIs(is_seal(picture, found), True)

    def test_each_degree_of_the_prime_polynomial(self):
        mixer = Mixer(54)
        polys = [(2, (1, 1, 0, 0, 0, 0, 1)), (2, (1, 0, 1, 0, 0, 1)), (3, (2, 1, 0, 0, 1)), (3, (1, 0, 1)),
                 (5, (2, 0, 1)), (7, (1, 0, 1)), (11, (1, 0, 1)), (13, (2, 0, 1)), (2, (1, 0, 0, 1, 0, 0, 1))]
        for prime, poly in polys:
            self.assertEqual(len(factors(prime, poly)), 1)
            size = len(poly) - 1
            for web, found in ((LOOP, (companion(prime, poly),)), (PENCIL, (plain(prime, size), companion(prime, poly))),
                               (BOTH_WAYS, (companion(prime, poly), plain(prime, size)))):
                picture = Picture(web, prime, (size,) * web.many, found)
                picture = based(picture, tuple(mixer.regular(prime, size) for _ in range(web.many)))
                ideal, turn, least = seal(picture)
                self.assertEqual((ideal, len(least) - 1), ((), size))
                self.assertIs(is_seal(picture, (ideal, turn, least)), True)

    def test_leadings_that_cannot_be_exchanged(self):
        mixer = Mixer(55)
        picture = regular_picture(2, over_four, 4)
        for _ in range(20):
            self.assertEqual(many_leadings(picture, picture), 4)
            ideal, turn, poly = seal(picture)
            self.assertEqual((len(ideal), poly), (2, (1, 1, 1)))
            self.assertIs(is_seal(picture, (ideal, turn, poly)), True)
            picture = based(picture, (mixer.regular(2, 4),))
        whole = regular_picture(2, lambda one, other: tuple(
            sum(one[2 * i + k] * other[2 * k + j] for k in range(2)) % 2 for i in range(2) for j in range(2)), 4)
        self.assertIs(is_piece(whole), False)

    def test_several_alike_ones_that_no_single_leading_tells_apart(self):
        mixer = Mixer(59)
        hidden = 0
        for prime, size in ((2, 2), (3, 1)):
            one = Picture(TWO_LOOPS, prime, (size,), (nought(prime, size, size), plain(prime, size)))
            while not is_piece(one) or many_leadings(one, one) > 1:
                one = mixed_picture(mixer, TWO_LOOPS, prime, sizes=(size,))
            double = beside(TWO_LOOPS, prime, [one, one])
            for _ in range(150):
                picture = based(double, (mixer.regular(prime, 2 * size),))
                self.assertEqual(many_leadings(picture, picture), 4)
                self.assertIsNone(seal(picture))
                polys = [least_polynomial(leading[0]) for leading in leadings(picture, picture)]
                hidden += all(len(factors(prime, poly)) == 1 for poly in polys)
        self.assertGreater(hidden, 0)

    def test_lines_have_bars_alone(self):
        mixer = Mixer(56)
        for prime in PRIMES:
            for word in ("", ">", "<>", "><>", ">>><<<>"):
                web = line(word)
                for begin in range(web.many):
                    for end in range(begin, web.many):
                        sizes = tuple(int(begin <= place <= end) for place in range(web.many))
                        found = tuple(Table(prime, sizes[a], ((1,) * sizes[a],) * sizes[b]) for a, b in web.arrows)
                        bar = Picture(web, prime, sizes, found)
                        self.assertIs(is_piece(bar), True)
                        self.assertEqual(seal(bar)[0], ())
                        if end > begin:
                            cut = tuple(nought(prime, sizes[b], sizes[a]) for a, b in web.arrows)
                            self.assertIs(is_piece(Picture(web, prime, sizes, cut)), False)
                if len(word) < 4:
                    picture = mixed_picture(mixer, web, prime, sizes=(2,) * web.many)
                    self.assertIs(is_piece(picture), False)

    def test_beside_one_another_and_beside_nothing(self):
        mixer = Mixer(57)
        for prime in (2, 3, 13):
            for web in (LOOP, PENCIL, RING, BOTH_WAYS):
                empty = beside(web, prime, ())
                for _ in range(12):
                    picture = mixed_picture(mixer, web, prime, 3)
                    if is_piece(picture):
                        self.assertIs(is_piece(beside(web, prime, [empty] * 6 + [picture] + [empty] * 5)), True)
                        bases = tuple(corner(mixer.regular(prime, size), mixer.regular(prime, size))
                                      for size in picture.sizes)
                        self.assertIs(is_piece(based(beside(web, prime, [picture, picture]), bases)), False)
                        self.assertIsNone(seal(beside(web, prime, [picture] * 5)))

    def test_sizes_beyond_the_bounds(self):
        mixer = Mixer(58)
        pictures = [mixed_picture(mixer, LOOP, 3, sizes=(6,)), mixed_picture(mixer, LOOP, 3, sizes=(6,))]
        double = beside(LOOP, 3, pictures)
        self.assertIsNone(seal(double))
        self.assertIs(is_seal(double, ((), (plain(3, 12),), (2, 1))), False)

    def test_things_that_are_no_picture(self):
        for thing in more_odd_things() + far_numbers() + [LOOP, plain(2, 1)]:
            if not isinstance(thing, Picture):
                self.assertIs(self.same_twice(is_piece, thing), False)
        self.assertIs(is_piece(Picture(Web(1, ()), 2, (0,), ())), False)

    def test_e03(self):
        one = Table(2, 1, ((1,),))
        picture = Picture(Web(3, ((0, 1), (2, 1))), 2, (1, 1, 1), (one, one))
        self.assertEqual(many_leadings(picture, picture), 1)
        self.assertEqual(seal(picture)[0], ())
        self.assertIs(is_piece(picture), True)
        self.assertIs(is_piece(Picture(line(">"), 2, (2, 1), (Table(2, 2, ((1, 0),)),))), False)


if __name__ == "__main__":
    unittest.main()
