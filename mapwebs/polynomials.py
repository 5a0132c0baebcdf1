"""Polynomials over a prime, and polynomials at tables."""

from mapwebs.checks import is_column, is_prime
from mapwebs.divisions import divided, monic, prime_divisors, trimmed
from mapwebs.errors import NoFit, NoPolynomial, NoPrime
from mapwebs.spans import kernel_rows
from mapwebs.tables import nought_of, plain_of, plus, scaled, table_of, times, unit_rows

MOST_DEGREE = 12


def is_polynomial(prime, thing):
    """Whether a thing is a polynomial of the prime."""
    if not isinstance(thing, tuple) or not is_column(prime, len(thing), thing):
        return False
    return len(thing) == 0 or thing[-1] != 0


def is_prime_polynomial(prime, thing):
    """Whether a thing is a prime polynomial of the prime."""
    if not is_polynomial(prime, thing) or len(thing) < 2:
        return False
    return factors(prime, thing) == ((thing, 1),)


def product(prime, one, other):
    """The product of two polynomials."""
    if not is_prime(prime):
        raise NoPrime()
    if not is_polynomial(prime, one) or not is_polynomial(prime, other):
        raise NoPolynomial()
    worths = [0] * (len(one) + len(other))
    for at, worth in enumerate(one):
        for place, item in enumerate(other):
            worths[at + place] = (worths[at + place] + worth * item) % prime
    return trimmed(worths)


def factors(prime, poly):
    """The ascending tuple of the prime polynomials that make up poly, with their powers."""
    if not is_prime(prime):
        raise NoPrime()
    if not is_polynomial(prime, poly) or len(poly) == 0:
        raise NoPolynomial()
    left = monic(prime, poly)
    found = []
    for part in sorted(prime_divisors(prime, left)):
        power = 0
        quotient, rest = divided(prime, left, part)
        while len(rest) == 0:
            power = power + 1
            left = quotient
            quotient, rest = divided(prime, left, part)
        found.append((part, power))
    return tuple(found)


def at_table(poly, table):
    """The sum of poly's worths times the powers of a table."""
    if not is_polynomial(table.prime, poly):
        raise NoPolynomial()
    if table.high != table.wide:
        raise NoFit()
    plain = plain_of(table.prime, table.wide)
    total = nought_of(table.prime, table.wide, table.wide)
    for worth in reversed(poly):
        total = plus(times(total, table), scaled(plain, worth))
    return total


def least_polynomial(table):
    """The monic polynomial of least degree that is nought at a table."""
    if table.high != table.wide:
        raise NoFit()
    size = table.wide
    powers = [plain_of(table.prime, size)]
    for _ in range(size):
        powers.append(times(powers[-1], table))
    highest_first = powers[::-1]
    rows = []
    for at in range(size):
        for place in range(size):
            rows.append([power.rows[at][place] for power in highest_first])
    # Among reduced rows the last one begins farthest behind: at the least power.
    return trimmed(kernel_rows(table.prime, size + 1, rows)[-1][::-1])


def companion(prime, poly):
    """The table that leads each power of x to the next one, where poly is as good as 0."""
    if not is_prime(prime):
        raise NoPrime()
    if not is_polynomial(prime, poly) or not 2 <= len(poly) <= MOST_DEGREE + 1 or poly[-1] != 1:
        raise NoPolynomial()
    size = len(poly) - 1
    nexts = ((0,) * (size - 1),) + unit_rows(size - 1)
    rows = [row + (-worth % prime,) for row, worth in zip(nexts, poly)]
    return table_of(prime, size, tuple(rows))
