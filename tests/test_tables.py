"""Part 1, tables: 1.2 to 1.4, e01, and the general rules where they speak of tables."""

import unittest

from mapwebs.tables import (Table, corner, image, kernel, led, nought, plain, plus, rank, reduced,
                            scaled, solved, times, turned_about, undone)
from samples import PRIMES, Checks, Mixer, columns, far_numbers, is_reduced, odd_things, span, tables


def shapes():
    return [(high, wide) for high in range(4) for wide in range(4)] + [(12, 12), (0, 12), (12, 0), (5, 7)]


def written_out(table, column):
    """What 1.2 says of led, with plain loops."""
    found = []
    for i in range(table.high):
        total = 0
        for j in range(table.wide):
            total += table.rows[i][j] * column[j]
        found.append(total % table.prime)
    return tuple(found)


class Construction(Checks, unittest.TestCase):

    def test_attributes_and_high(self):
        for prime in PRIMES:
            rows = ((0, prime - 1, 1), (1, 0, 0))
            table = Table(prime, 3, rows)
            self.assertEqual((table.prime, table.wide, table.rows, table.high), (prime, 3, rows, 2))
            self.assertEqual(sorted(vars(table)), ["high", "prime", "rows", "wide"])

    def test_edges_that_are_right(self):
        self.assertEqual(Table(2, 0, ()).high, 0)
        self.assertEqual(Table(2, 12, ()).high, 0)
        self.assertEqual(Table(2, 0, ((),) * 12).high, 12)
        self.assertEqual(Table(13, 12, ((12,) * 12,) * 12).wide, 12)

    def test_odd_primes(self):
        for thing in odd_things() + far_numbers() + [0, 1, 4, 6, 9, 12, 14, 17, 19]:
            self.raises("BadTable", Table, thing, 1, ((1,),), part="prime")
            self.raises("BadTable", Table, thing, thing, thing, part="prime")

    def test_odd_wides(self):
        for thing in odd_things() + far_numbers() + [13, 14]:
            self.raises("BadTable", Table, 2, thing, (), part="wide")
            self.raises("BadTable", Table, 2, thing, thing, part="wide")
        self.raises("BadTable", Table, 2, 13, ((0,) * 13,), part="wide")
        self.raises("BadTable", Table, 2, True, ((1,),), part="wide")

    def test_odd_rows(self):
        for thing in odd_things() + far_numbers():
            if not isinstance(thing, tuple):
                self.raises("BadTable", Table, 2, 1, thing, part="rows")
            elif len(thing) > 12:
                self.raises("BadTable", Table, 2, 7, thing, part="rows")
            elif len(thing) > 0:
                self.raises("BadTable", Table, 2, 7, thing, part=0)
        self.raises("BadTable", Table, 2, 0, ((),) * 13, part="rows")
        self.raises("BadTable", Table, 2, 0, (None,) * 13, part="rows")
        self.raises("BadTable", Table, 2, 1, [(1,)], part="rows")

    def test_the_first_row_that_is_none(self):
        good = (0, 1, 2)
        wrong = [(0, 1), (0, 1, 2, 0), (), [0, 1, 2], (0, 1, 3), (0, -1, 2), (0, True, 2), (False, 1, 2),
                 (0, 1, "2"), (0, 1, None), (0, 1, (2,)), (0, [1], 2), {0: 1, 1: 2, 2: 0}, "012", b"012",
                 range(3), None, 0]
        for row in wrong + odd_things():
            for at in range(5):
                rows = (good,) * at + (row,) + (good,) * (4 - at)
                self.raises("BadTable", Table, 3, 3, rows, part=at)
                rows = (good,) * at + (row,) * (12 - at)
                self.raises("BadTable", Table, 3, 3, rows, part=at)

    def test_a_table_is_equal_to_its_like_alone(self):
        one = Table(3, 2, ((0, 1), (2, 0)))
        self.assertEqual(one, Table(3, 2, ((0, 1), (2, 0))))
        self.assertFalse(one != Table(3, 2, ((0, 1), (2, 0))))
        for other in [Table(5, 2, ((0, 1), (2, 0))), Table(3, 2, ((0, 1), (2, 1))),
                      Table(3, 2, ((0, 1),)), Table(3, 1, ((0,), (2,))), ((0, 1), (2, 0)),
                      (3, 2, ((0, 1), (2, 0)))] + odd_things():
            self.assertFalse(one == other)
            self.assertTrue(one != other)
            self.assertFalse(other == one)
        self.assertNotEqual(Table(3, 0, ()), Table(3, 1, ()))
        self.assertNotEqual(Table(3, 0, ()), Table(2, 0, ()))

    def test_methods_stand_in_the_class(self):
        self.assertIn("__eq__", vars(Table))


class Led(Checks, unittest.TestCase):

    def test_written_out(self):
        mixer = Mixer(1)
        for prime in PRIMES:
            for high, wide in shapes():
                table = mixer.table(prime, high, wide)
                for _ in range(5):
                    column = mixer.column(prime, wide)
                    self.assertEqual(self.same_twice(led, table, column), written_out(table, column))

    def test_no_column(self):
        table = Table(3, 2, ((0, 1), (2, 0), (1, 1)))
        for thing in odd_things() + far_numbers() + [(0,), (0, 1, 2), [0, 1], (0, 3), (0, -1), (0, True),
                                                     (None, 0), "01", b"01", {0: 1, 1: 0}]:
            self.raises("NoColumn", led, table, thing)
        for thing in odd_things():
            if thing != ():
                self.raises("NoColumn", led, Table(2, 0, ((),)), thing)
        self.assertEqual(led(Table(2, 0, ((), ())), ()), (0, 0))
        self.assertEqual(led(Table(2, 2, ()), (1, 1)), ())

    def test_e01(self):
        one = Table(2, 2, ((1, 1), (0, 1)))
        self.assertEqual(times(one, one), plain(2, 2))
        table = Table(3, 3, ((0, 2, 1), (1, 1, 1)))
        self.assertEqual(reduced(table).rows, ((1, 0, 2), (0, 1, 2)))
        self.assertEqual(kernel(table), ((1, 1, 1),))
        self.assertEqual(led(table, (1, 1, 0)), (2, 2))


class Sums(Checks, unittest.TestCase):

    def test_times_leads_as_other_and_then_as_one(self):
        mixer = Mixer(2)
        for prime in PRIMES:
            for high in (0, 1, 2, 5, 12):
                for middle in (0, 1, 3, 12):
                    for wide in (0, 1, 2, 12):
                        one = mixer.table(prime, high, middle)
                        other = mixer.table(prime, middle, wide)
                        both = self.same_twice(times, one, other)
                        self.assertEqual((both.prime, both.high, both.wide), (prime, high, wide))
                        for _ in range(3):
                            column = mixer.column(prime, wide)
                            self.assertEqual(led(both, column), led(one, led(other, column)))

    def test_times_fits_or_not(self):
        mixer = Mixer(3)
        for high, wide in shapes():
            for height, width in shapes():
                one, other = mixer.table(3, high, wide), mixer.table(3, height, width)
                if wide != height:
                    self.raises("NoFit", times, one, other)
                else:
                    self.assertEqual(times(one, other).high, high)
        self.raises("NoFit", times, plain(2, 2), plain(3, 2))
        self.raises("NoFit", times, plain(2, 0), plain(3, 0))

    def test_plus(self):
        mixer = Mixer(4)
        for prime in PRIMES:
            for high, wide in shapes():
                one, other = mixer.table(prime, high, wide), mixer.table(prime, high, wide)
                both = self.same_twice(plus, one, other)
                rows = tuple(tuple((one.rows[i][j] + other.rows[i][j]) % prime for j in range(wide))
                             for i in range(high))
                self.assertEqual(both, Table(prime, wide, rows))
        for one, other in [(plain(2, 2), plain(3, 2)), (nought(2, 1, 2), nought(2, 2, 1)),
                           (nought(2, 1, 2), nought(2, 1, 3)), (nought(2, 1, 2), nought(2, 2, 2)),
                           (nought(2, 0, 2), nought(2, 0, 1)), (nought(2, 2, 0), nought(2, 1, 0))]:
            self.raises("NoFit", plus, one, other)
            self.raises("NoFit", plus, other, one)

    def test_scaled(self):
        mixer = Mixer(5)
        for prime in PRIMES:
            for high, wide in shapes():
                table = mixer.table(prime, high, wide)
                for number in (0, 1, 2, prime - 1, prime, -1, -17, 10 ** 11 + 7, -(10 ** 11)):
                    rows = tuple(tuple(worth * number % prime for worth in row) for row in table.rows)
                    self.assertEqual(self.same_twice(scaled, table, number), Table(prime, wide, rows))
        for thing in odd_things():
            self.raises("NoNumber", scaled, plain(3, 2), thing)
            self.raises("NoNumber", scaled, nought(3, 0, 0), thing)

    def test_turned_about(self):
        mixer = Mixer(6)
        for prime in PRIMES:
            for high, wide in shapes():
                table = mixer.table(prime, high, wide)
                turned = self.same_twice(turned_about, table)
                self.assertEqual((turned.prime, turned.high, turned.wide), (prime, wide, high))
                for i in range(high):
                    for j in range(wide):
                        self.assertEqual(turned.rows[j][i], table.rows[i][j])
                self.assertEqual(turned_about(turned), table)

    def test_plain(self):
        for prime in PRIMES:
            for size in range(13):
                table = self.same_twice(plain, prime, size)
                self.assertEqual((table.high, table.wide), (size, size))
                for at in range(size):
                    column = (0,) * at + (1,) + (0,) * (size - at - 1)
                    self.assertEqual(led(table, column), column)

    def test_nought(self):
        for prime in PRIMES:
            for high in range(13):
                for wide in range(13):
                    self.assertEqual(nought(prime, high, wide), Table(prime, wide, ((0,) * wide,) * high))

    def test_plain_and_nought_refuse_in_order(self):
        for thing in odd_things() + far_numbers() + [0, 1, 4, 14]:
            for other in (1, 13, None, thing):
                self.raises("NoPrime", plain, thing, other)
                self.raises("NoPrime", nought, thing, other, 1)
                self.raises("NoPrime", nought, thing, 1, other)
        for thing in odd_things() + far_numbers() + [13, 14]:
            self.raises("NoNumber", plain, 2, thing)
            self.raises("NoNumber", nought, 2, thing, 1)
            self.raises("NoNumber", nought, 2, 1, thing)
            self.raises("NoNumber", nought, 2, thing, thing)

    def test_corner(self):
        mixer = Mixer(7)
        for prime in PRIMES:
            for high, wide in shapes():
                for height, width in ((0, 0), (0, 2), (2, 0), (3, 1), (12, 12)):
                    one, other = mixer.table(prime, high, wide), mixer.table(prime, height, width)
                    both = self.same_twice(corner, one, other)
                    self.assertEqual((both.prime, both.high, both.wide),
                                     (prime, high + height, wide + width))
                    left, right = mixer.column(prime, wide), mixer.column(prime, width)
                    self.assertEqual(led(both, left + right), led(one, left) + led(other, right))
        self.assertEqual(corner(Table(3, 1, ((2,),)), Table(3, 2, ((1, 2),))).rows, ((2, 0, 0), (0, 1, 2)))
        self.raises("NoFit", corner, plain(2, 1), plain(3, 1))
        self.raises("NoFit", corner, plain(2, 0), plain(3, 0))


class Spans(Checks, unittest.TestCase):

    def small_tables(self):
        for prime, high, wide in ((2, 3, 3), (2, 2, 4), (2, 4, 2), (3, 2, 2), (3, 1, 3), (3, 3, 1),
                                  (5, 2, 1), (5, 1, 2), (7, 1, 2), (11, 1, 1), (13, 2, 1), (2, 0, 3),
                                  (3, 3, 0), (5, 0, 0), (2, 1, 5)):
            for table in tables(prime, high, wide):
                yield table

    def mixed_tables(self):
        mixer = Mixer(8)
        for prime in (2, 3):
            for _ in range(60):
                high, wide = mixer.below(6), mixer.below(7)
                yield mixer.table(prime, high, wide)

    def test_reduced_and_rank(self):
        for table in list(self.small_tables()) + list(self.mixed_tables()):
            found = self.same_twice(reduced, table)
            self.assertEqual((found.prime, found.wide, found.high), (table.prime, table.wide, len(found.rows)))
            self.assertTrue(is_reduced(found.rows))
            whole = span(table.prime, table.wide, table.rows)
            self.assertEqual(span(table.prime, table.wide, found.rows), whole)
            self.assertEqual(rank(table), found.high)
            self.assertEqual(len(whole), table.prime ** rank(table))
            self.assertEqual(reduced(found), found)

    def test_kernel_and_image(self):
        for table in list(self.small_tables()) + list(self.mixed_tables()):
            prime = table.prime
            to_nought = {column for column in columns(prime, table.wide) if not any(led(table, column))}
            reached = {led(table, column) for column in columns(prime, table.wide)}
            found = self.same_twice(kernel, table)
            self.assertIsInstance(found, tuple)
            self.assertTrue(is_reduced(found))
            self.assertEqual(span(prime, table.wide, found), to_nought)
            found = self.same_twice(image, table)
            self.assertIsInstance(found, tuple)
            self.assertTrue(is_reduced(found))
            self.assertEqual(span(prime, table.high, found), reached)

    def test_solved(self):
        for table in list(self.small_tables()) + list(self.mixed_tables()):
            reached = {led(table, column) for column in columns(table.prime, table.wide)}
            for column in columns(table.prime, table.high):
                found = solved(table, column)
                if column in reached:
                    self.assertEqual(led(table, found), column)
                else:
                    self.assertIsNone(found)

    def test_solved_refuses(self):
        table = Table(3, 3, ((0, 1, 2), (2, 0, 1)))
        for thing in odd_things() + far_numbers() + [(0,), (0, 1, 2), [0, 1], (0, 3), (0, True), (-1, 0)]:
            self.raises("NoColumn", solved, table, thing)
        self.same_twice(solved, table, (1, 2))

    def test_undone(self):
        for table in list(self.small_tables()) + list(self.mixed_tables()):
            found = self.same_twice(undone, table)
            if table.high == table.wide and kernel(table) == ():
                self.assertEqual(times(found, table), plain(table.prime, table.wide))
                self.assertEqual(times(table, found), plain(table.prime, table.wide))
            else:
                self.assertIsNone(found)
        self.assertEqual(undone(plain(7, 0)), plain(7, 0))
        self.assertIsNone(undone(nought(7, 1, 1)))
        self.assertIsNone(undone(nought(7, 0, 1)))

    def test_undone_of_larger_ones(self):
        mixer = Mixer(9)
        for prime in PRIMES:
            for size in range(13):
                table = mixer.regular(prime, size)
                self.assertEqual(times(undone(table), table), plain(prime, size))
                self.assertEqual(times(table, undone(table)), plain(prime, size))
                if size > 0:
                    spoilt = Table(prime, size, table.rows[:-1] + (led(turned_about(table), (1,) * (size - 1) + (0,)),))
                    self.assertIsNone(undone(spoilt))

    def test_large_ones_for_each_prime(self):
        mixer = Mixer(10)
        for prime in PRIMES:
            for high, wide in ((12, 12), (12, 7), (7, 12), (12, 1), (1, 12)):
                table = times(mixer.table(prime, high, 5), mixer.table(prime, 5, wide))
                rows = reduced(table).rows
                self.assertTrue(is_reduced(rows))
                for row in table.rows:
                    self.assertIsNotNone(solved(turned_about(reduced(table)), row))
                for row in rows:
                    self.assertIsNotNone(solved(turned_about(table), row))
                self.assertEqual(len(kernel(table)), wide - len(rows))
                self.assertEqual(len(image(table)), len(rows))
                for column in kernel(table):
                    self.assertEqual(led(table, column), (0,) * high)
                column = mixer.column(prime, wide)
                self.assertEqual(led(table, solved(table, led(table, column))), led(table, column))


class BeyondTheBounds(Checks, unittest.TestCase):

    def test_results_may_be_passed_on(self):
        mixer = Mixer(11)
        for prime in PRIMES:
            one, other = mixer.regular(prime, 12), mixer.regular(prime, 12)
            big = corner(corner(one, other), one)
            self.assertEqual((big.high, big.wide), (36, 36))
            back = undone(big)
            both = times(big, back)
            self.assertEqual(led(both, (1,) * 36), (1,) * 36)
            self.assertEqual(both, corner(corner(plain(prime, 12), plain(prime, 12)), plain(prime, 12)))
            self.assertEqual(rank(big), 36)
            self.assertEqual(reduced(big), both)
            self.assertEqual(kernel(big), ())
            self.assertEqual(image(big), both.rows)
            self.assertEqual(turned_about(turned_about(big)), big)
            self.assertEqual(plus(big, scaled(big, -1)), scaled(big, 0))
            column = mixer.column(prime, 36)
            self.assertEqual(solved(big, led(big, column)), column)
            self.raises("NoColumn", led, big, (0,) * 12)
            self.raises("NoFit", times, big, one)

    def test_flat_ones(self):
        wide = corner(nought(2, 0, 12), nought(2, 0, 12))
        self.assertEqual((wide.high, wide.wide, wide.rows), (0, 24, ()))
        self.assertEqual(kernel(wide), plain(2, 12).rows[:0] + tuple(
            (0,) * k + (1,) + (0,) * (23 - k) for k in range(24)))
        high = turned_about(wide)
        self.assertEqual((high.high, high.wide, high.rows), (24, 0, ((),) * 24))
        self.assertEqual(times(wide, high), nought(2, 0, 0))
        self.assertEqual(rank(times(high, wide)), 0)
        self.assertEqual(solved(high, (0,) * 24), ())
        self.assertIsNone(solved(high, (0,) * 23 + (1,)))


if __name__ == "__main__":
    unittest.main()
