"""Loops: the pieces of one place with one arrow back to it, and the kinds of a table."""

from mapwebs.checks import is_number, is_prime
from mapwebs.errors import NoFit, NoNumber, NoPolynomial, NoPrime
from mapwebs.pictures import picture_of
from mapwebs.polynomials import (MOST_DEGREE, at_table, companion, factors, is_prime_polynomial, least_polynomial,
                                 product)
from mapwebs.tables import rank, times
from mapwebs.webs import Web


def is_factor(prime, thing):
    """Whether a thing is a prime polynomial that is not of too great a degree."""
    # Longer ones are not asked about: telling whether they are prime ones would take too long.
    return isinstance(thing, tuple) and len(thing) <= MOST_DEGREE + 1 and is_prime_polynomial(prime, thing)


def is_power(poly, thing):
    """Whether a thing is a number of times, once at least, that poly may stand as a factor."""
    return is_number(MOST_DEGREE // (len(poly) - 1), thing) and thing > 0


def power_companion(prime, poly, power):
    """The companion of poly so many times as a factor."""
    total = (1,)
    for _ in range(power):
        total = product(prime, total, poly)
    return companion(prime, total)


def loop_piece(prime, poly, power):
    """The piece of one place whose arrow has the companion of poly so many times as a factor."""
    if not is_prime(prime):
        raise NoPrime()
    if not is_factor(prime, poly):
        raise NoPolynomial()
    if not is_power(poly, power):
        raise NoNumber()
    table = power_companion(prime, poly, power)
    return picture_of(Web(1, ((0, 0),)), prime, (table.wide,), (table,))


def ranks_of_powers(table, poly, power):
    """The list of the ranks of poly's powers at a table, from the 0th one to one beyond the power."""
    step = at_table(poly, table)
    ranks = [table.wide, rank(step)]
    total = step
    for _ in range(power):
        total = times(total, step)
        ranks.append(rank(total))
    return ranks


def loop_kinds(table):
    """The ascending tuple of triples of a prime polynomial, a power and how many such pieces there are."""
    if table.high != table.wide:
        raise NoFit()
    found = []
    for poly, most in factors(table.prime, least_polynomial(table)):
        # From one power to the next, each piece that it does not bring to noughts yet lessens
        # the rank by poly's degree.
        ranks = ranks_of_powers(table, poly, most)
        for power in range(1, most + 1):
            many = (ranks[power - 1] - 2 * ranks[power] + ranks[power + 1]) // (len(poly) - 1)
            if many > 0:
                found.append((poly, power, many))
    return tuple(found)
