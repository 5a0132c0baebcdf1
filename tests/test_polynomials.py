"""Part 1, polynomials: 2.1, 2.2, e02."""

import unittest

from mapwebs.polynomials import at_table, companion, factors, least_polynomial, product
from mapwebs.tables import Table, corner, nought, plain, plus, scaled, times
from samples import PRIMES, Checks, Mixer, columns, far_numbers, monics, odd_things, tables


def odd_polynomials(prime):
    return odd_things() + far_numbers() + [(0,), (1, 0), (1, prime), (prime,), (1, -1), (-1, 1), (1, True),
                                           (False, 1), [1], [0, 1], "1", (1, "1"), (None, 1), (1, (1,))]


def is_odd(thing):
    return thing != ()


def written_out(prime, one, other):
    """The sums of products at each power, as 2.1 says it."""
    found = []
    for power in range(len(one) + len(other)):
        total = 0
        for k in range(power + 1):
            if k < len(one) and power - k < len(other):
                total += one[k] * other[power - k]
        found.append(total % prime)
    while found and found[-1] == 0:
        found.pop()
    return tuple(found)


def divides(prime, small, poly):
    """Whether a monic polynomial divides another one: long division."""
    rest = list(poly)
    while len(rest) >= len(small):
        worth = rest[-1]
        for k in range(len(small)):
            rest[len(rest) - len(small) + k] = (rest[len(rest) - len(small) + k] - worth * small[k]) % prime
        rest.pop()
    return not any(rest)


def prime_polynomials(prime, degree):
    """The monic ones that no monic one of lesser degree, above 0, divides."""
    found = []
    for poly in monics(prime, degree):
        if not any(divides(prime, small, poly) for less in range(1, degree) for small in monics(prime, less)):
            found.append(poly)
    return found


class Products(Checks, unittest.TestCase):

    def test_small_ones_written_out(self):
        for prime, most in ((2, 4), (3, 3), (5, 2), (7, 1), (11, 1), (13, 1)):
            polys = [()] + [poly for size in range(1, most + 1) for poly in columns(prime, size) if poly[-1]]
            for one in polys:
                for other in polys:
                    self.assertEqual(product(prime, one, other), written_out(prime, one, other))

    def test_long_ones_written_out(self):
        mixer = Mixer(20)
        for prime in PRIMES:
            for size in (1, 2, 7, 24, 25):
                one = mixer.column(prime, size - 1) + (1 + mixer.below(prime - 1),)
                other = mixer.column(prime, 24) + (prime - 1,)
                self.assertEqual(self.same_twice(product, prime, one, other), written_out(prime, one, other))
                self.assertEqual(product(prime, one, ()), ())
                self.assertEqual(product(prime, (), one), ())
                self.assertEqual(product(prime, one, (1,)), one)
            self.assertEqual(product(prime, (), ()), ())

    def test_a_product_may_be_passed_on(self):
        poly = (1, 1) + (0,) * 22 + (1,)
        double = product(3, poly, poly)
        self.assertEqual(len(double), 49)
        self.assertEqual(len(product(3, double, double)), 97)
        for found, power in factors(3, product(3, double, double)):
            self.assertEqual(power % 4, 0)

    def test_refusals(self):
        for thing in odd_things() + far_numbers() + [0, 1, 4, 14]:
            self.raises("NoPrime", product, thing, (1,), (1,))
            self.raises("NoPrime", product, thing, thing, None)
        for prime in (2, 5, 13):
            for thing in odd_polynomials(prime):
                if is_odd(thing):
                    self.raises("NoPolynomial", product, prime, thing, (1,))
                    self.raises("NoPolynomial", product, prime, (0, 1), thing)
                    self.raises("NoPolynomial", product, prime, (), thing)
                    self.raises("NoPolynomial", product, prime, thing, thing)


class Factors(Checks, unittest.TestCase):

    def check(self, prime, poly, primes):
        """The prime polynomials that divide poly, each as often as it does, are just these."""
        expected = []
        for small in primes:
            power, whole = 0, small
            while divides(prime, whole, poly):
                power, whole = power + 1, written_out(prime, whole, small)
            if power:
                expected.append((small, power))
        self.assertEqual(factors(prime, poly), tuple(sorted(expected)), (prime, poly))

    def test_all_small_ones_against_all_lesser_ones(self):
        for prime, most in ((2, 5), (3, 4), (5, 3), (7, 2), (11, 2), (13, 2)):
            primes = [poly for degree in range(1, most + 1) for poly in prime_polynomials(prime, degree)]
            for degree in range(most + 1):
                for poly in monics(prime, degree):
                    self.check(prime, poly, primes)

    def test_prime_polynomials_have_themselves_alone(self):
        for prime, most in ((2, 6), (3, 4), (5, 3), (7, 2), (11, 2), (13, 2)):
            for degree in range(1, most + 1):
                for poly in prime_polynomials(prime, degree):
                    self.assertEqual(factors(prime, poly), ((poly, 1),))

    def test_products_with_powers(self):
        mixer = Mixer(21)
        for prime, most in ((2, 6), (3, 4), (5, 3), (7, 2), (11, 2), (13, 2)):
            primes = [poly for degree in range(1, most + 1) for poly in prime_polynomials(prime, degree)]
            for _ in range(60):
                poly, expected = (1,), {}
                for _ in range(1 + mixer.below(6)):
                    part = primes[mixer.below(len(primes))]
                    for _ in range(1 + mixer.below(2 * prime)):
                        if len(poly) + len(part) - 1 <= 25:
                            poly = written_out(prime, poly, part)
                            expected[part] = expected.get(part, 0) + 1
                for worth in range(1, prime):
                    scaled_poly = tuple(worth * item % prime for item in poly)
                    self.assertEqual(self.same_twice(factors, prime, scaled_poly), tuple(sorted(expected.items())))

    def test_pure_powers_up_to_25_worths(self):
        for prime in PRIMES:
            for power in range(1, 25):
                self.assertEqual(factors(prime, (0,) * power + (1,)), (((0, 1), power),))
                poly = (1,)
                for _ in range(power):
                    poly = written_out(prime, poly, (1, 1))
                self.assertEqual(factors(prime, poly), (((1, 1), power),))

    def test_what_comes_out_makes_up_the_polynomial(self):
        mixer = Mixer(22)
        for prime in PRIMES:
            for _ in range(30):
                poly = mixer.column(prime, mixer.below(25)) + (1 + mixer.below(prime - 1),)
                found = factors(prime, poly)
                self.assertEqual(list(found), sorted(found))
                self.assertEqual(len(set(part for part, _ in found)), len(found))
                whole = poly[-1:]
                for part, power in found:
                    self.assertEqual(part[-1], 1)
                    self.assertGreater(power, 0)
                    self.assertEqual(factors(prime, part), ((part, 1),))
                    for _ in range(power):
                        whole = written_out(prime, whole, part)
                self.assertEqual(whole, poly)

    def test_numbers_have_none(self):
        for prime in PRIMES:
            for worth in range(1, prime):
                self.assertEqual(factors(prime, (worth,)), ())

    def test_first_and_last_worths(self):
        self.assertEqual(factors(5, (2, 4)), (((3, 1), 1),))
        self.assertEqual(factors(7, (0, 0, 3)), (((0, 1), 2),))
        self.assertEqual(factors(13, (12, 0, 1)), (((1, 1), 1), ((12, 1), 1)))

    def test_refusals(self):
        for thing in odd_things() + far_numbers() + [0, 1, 4, 14]:
            self.raises("NoPrime", factors, thing, (1,))
            self.raises("NoPrime", factors, thing, thing)
        for prime in (2, 5, 13):
            for thing in odd_polynomials(prime):
                self.raises("NoPolynomial", factors, prime, thing)
            self.raises("NoPolynomial", factors, prime, ())

    def test_e02(self):
        self.assertEqual(factors(2, (1, 0, 1)), (((1, 1), 2),))
        self.assertEqual(companion(2, (1, 1, 1)).rows, ((0, 1), (1, 1)))
        self.assertEqual(least_polynomial(plain(5, 3)), (4, 1))


def summed(poly, table):
    """The powers of a table times the worths, one behind another."""
    total, power = nought_like(table), plain_like(table)
    for worth in poly:
        total = plus(total, scaled(power, worth))
        power = times(power, table)
    return total


def nought_like(table):
    return scaled(table, 0)


def plain_like(table):
    rows = tuple(tuple(int(i == j) for j in range(table.wide)) for i in range(table.high))
    return Table(table.prime, table.wide, rows) if table.high <= 12 else corner(
        plain(table.prime, 12), plain(table.prime, table.high - 12))


class AtTables(Checks, unittest.TestCase):

    def test_at_table(self):
        mixer = Mixer(23)
        for prime in PRIMES:
            for size in (0, 1, 2, 3, 6, 12):
                table = mixer.table(prime, size, size)
                for length in (0, 1, 2, 5, 25):
                    poly = (mixer.column(prime, length - 1) + (prime - 1,)) if length else ()
                    self.assertEqual(self.same_twice(at_table, poly, table), summed(poly, table))
        self.assertEqual(at_table((), plain(3, 2)), nought(3, 2, 2))
        self.assertEqual(at_table((2,), nought(3, 2, 2)), scaled(plain(3, 2), 2))

    def test_at_table_refuses_the_polynomial_first(self):
        for table in (plain(3, 2), nought(3, 2, 1), nought(3, 0, 1), nought(3, 1, 0)):
            for thing in odd_polynomials(3):
                if is_odd(thing):
                    self.raises("NoPolynomial", at_table, thing, table)
            if table.high != table.wide:
                for poly in ((), (1,), (0, 1)):
                    self.raises("NoFit", at_table, poly, table)
        self.raises("NoPolynomial", at_table, (1, 2), plain(2, 1))

    def test_least_polynomial_of_small_tables(self):
        for prime, size in ((2, 0), (2, 1), (2, 2), (2, 3), (3, 1), (3, 2), (5, 1), (13, 1)):
            for table in tables(prime, size, size):
                expected = None
                for degree in range(size + 1):
                    fitting = [poly for poly in monics(prime, degree)
                               if expected is None and summed(poly, table) == nought_like(table)]
                    if fitting:
                        self.assertEqual(len(fitting), 1)
                        expected = fitting[0]
                self.assertEqual(self.same_twice(least_polynomial, table), expected)

    def test_least_polynomial_of_known_tables(self):
        mixer = Mixer(24)
        for prime in PRIMES:
            self.assertEqual(least_polynomial(nought(prime, 0, 0)), (1,))
            for size in range(1, 13):
                self.assertEqual(least_polynomial(plain(prime, size)), (prime - 1, 1))
                self.assertEqual(least_polynomial(nought(prime, size, size)), (0, 1))
                poly = mixer.column(prime, size) + (1,)
                table = companion(prime, poly)
                self.assertEqual(least_polynomial(table), poly)
                base = mixer.regular(prime, size)
                if size < 7:
                    twice = corner(table, table)
                    self.assertEqual(least_polynomial(twice), poly)
                self.assertEqual(summed(least_polynomial(base), base), nought_like(base))

    def test_tables_beyond_the_bounds(self):
        poly = (1, 0, 2, 1, 1, 0, 0, 2, 1, 1, 0, 2, 1)
        table = companion(3, poly)
        big = corner(table, table)
        self.assertEqual(big.high, 24)
        self.assertEqual(least_polynomial(big), poly)
        self.assertEqual(at_table(poly, big), scaled(big, 0))
        self.assertEqual(at_table((0, 1), big), big)
        self.assertEqual(least_polynomial(corner(table, plain(3, 12))), product(3, poly, (2, 1))
                         if ((2, 1), 1) not in factors(3, poly) else poly)

    def test_least_polynomial_refuses(self):
        for high, wide in ((0, 1), (1, 0), (2, 3), (12, 11)):
            self.raises("NoFit", least_polynomial, nought(2, high, wide))

    def test_companion(self):
        mixer = Mixer(25)
        for prime in PRIMES:
            for size in range(1, 13):
                poly = mixer.column(prime, size) + (1,)
                table = self.same_twice(companion, prime, poly)
                self.assertEqual((table.prime, table.high, table.wide), (prime, size, size))
                for k in range(size):
                    column = tuple(row[k] for row in table.rows)
                    if k < size - 1:
                        self.assertEqual(column, (0,) * (k + 1) + (1,) + (0,) * (size - k - 2))
                    else:
                        self.assertEqual(column, tuple(-worth % prime for worth in poly[:size]))
                self.assertEqual(least_polynomial(table), poly)

    def test_companion_refuses(self):
        for thing in odd_things() + far_numbers() + [0, 1, 4, 14]:
            self.raises("NoPrime", companion, thing, (0, 1))
            self.raises("NoPrime", companion, thing, thing)
        for prime in (2, 3, 13):
            for thing in odd_polynomials(prime):
                self.raises("NoPolynomial", companion, prime, thing)
            self.raises("NoPolynomial", companion, prime, ())
            self.raises("NoPolynomial", companion, prime, (1,))
            self.raises("NoPolynomial", companion, prime, (1,) * 14)
            self.assertEqual(companion(prime, (1,) * 13).high, 12)
            if prime > 2:
                self.raises("NoPolynomial", companion, prime, (0, 2))
                self.raises("NoPolynomial", companion, prime, (1, 1, prime - 1))


if __name__ == "__main__":
    unittest.main()
