"""What strangers may pass: things are judged without an error, whatever they are."""

PRIMES = (2, 3, 5, 7, 11, 13)


def is_integer(thing):
    """Whether a thing is an integer: a flag is none."""
    return isinstance(thing, int) and not isinstance(thing, bool)


def is_number(most, thing):
    """Whether a thing is a number up to the most."""
    return is_integer(thing) and 0 <= thing <= most


def is_prime(thing):
    """Whether a thing is one of the primes."""
    return is_integer(thing) and thing in PRIMES


def is_column(prime, length, thing):
    """Whether a thing is a column of so many worths of the prime."""
    if not isinstance(thing, tuple) or len(thing) != length:
        return False
    return all([is_number(prime - 1, item) for item in thing])


def is_ascending(most, thing):
    """Whether a thing is a tuple of ascending numbers up to the most."""
    if not isinstance(thing, tuple) or not all([is_number(most, item) for item in thing]):
        return False
    return all([item < after for item, after in zip(thing, thing[1:])])
