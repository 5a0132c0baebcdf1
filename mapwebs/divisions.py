"""Polynomials divided by one another, and their prime divisors."""

from mapwebs.spans import inverse, kernel_rows, scaled_row


def trimmed(worths):
    """The polynomial with these worths: noughts at the end are left out."""
    many = len(worths)
    while many > 0 and worths[many - 1] == 0:
        many = many - 1
    return tuple(worths[:many])


def monic(prime, poly):
    """A polynomial other than 0, its worths divided by the last one."""
    return tuple(scaled_row(prime, poly, inverse(prime, poly[-1])))


def divided(prime, one, other):
    """The pair of quotient and rest of one polynomial by another one, which is not 0."""
    top = inverse(prime, other[-1])
    rest = list(one)
    quotient = [0] * max(len(one) - len(other) + 1, 0)
    for at in range(len(quotient) - 1, -1, -1):
        worth = rest[at + len(other) - 1] * top % prime
        quotient[at] = worth
        if worth != 0:
            for place, item in enumerate(other):
                rest[at + place] = (rest[at + place] - worth * item) % prime
    return tuple(quotient), trimmed(rest)


def common(prime, one, other):
    """The monic polynomial of greatest degree that divides both, of which one is not 0."""
    while len(other) > 0:
        one, other = other, divided(prime, one, other)[1]
    return monic(prime, one)


def slope(prime, poly):
    """The sum of the powers of x, each times the exponent ahead of it, one power lower."""
    return trimmed([at * worth % prime for at, worth in enumerate(poly)][1:])


def fixed_by_power(prime, poly):
    """The reduced rows that span the rests by poly that are their own power by the prime."""
    size = len(poly) - 1
    images = []
    for at in range(size):
        rest = divided(prime, (0,) * (prime * at) + (1,), poly)[1]
        column = list(rest) + [0] * (size - len(rest))
        column[at] = (column[at] - 1) % prime
        images.append(column)
    rows = [[worths[place] for worths in images] for place in range(size)]
    return kernel_rows(prime, size, rows)


def cut(prime, poly, row):
    """The parts of poly by the worths that a rest which is its own power takes on."""
    found = []
    for worth in range(prime):
        moved = trimmed([(row[0] - worth) % prime] + list(row[1:]))
        part = common(prime, poly, moved)
        if len(part) > 1:
            found.append(part)
    return found


def single_divisors(prime, poly):
    """The list of the prime divisors of a monic polynomial that none divides twice."""
    # Berlekamp's way: as many rests are their own power, as rows, as there are divisors,
    # and any two divisors are told apart by one of these.
    parts = [poly]
    for row in fixed_by_power(prime, poly):
        finer = []
        for part in parts:
            finer.extend(cut(prime, part, row))
        parts = finer
    return parts


def prime_divisors(prime, poly):
    """The list of the unlike prime polynomials that divide a monic polynomial."""
    found = []
    while len(poly) > 1:
        steep = slope(prime, poly)
        if len(steep) == 0:
            # Only powers by the prime have no slope, and worths are their own powers.
            poly = poly[::prime]
        else:
            double = common(prime, poly, steep)
            single = divided(prime, poly, double)[0]
            for part in single_divisors(prime, single):
                if part not in found:
                    found.append(part)
            poly = double
    return found
