"""Things for the tests: odd arguments, tables gone through one by one, mixed-up numbers."""

import copy
from itertools import product

from mapwebs import errors
from mapwebs.tables import Table

PRIMES = (2, 3, 5, 7, 11, 13)

ERROR_FIELDS = {
    "BadTable": ("part",), "BadWeb": ("part",), "BadPicture": ("part",),
    "BadTower": ("index",), "BadAnswer": ("arrow", "column"), "BadText": ("line",),
    "TooMany": ("most",), "NoName": ("name",), "NoColumn": (), "NoFit": (), "NoNumber": (),
    "NoPrime": (), "NoPolynomial": (), "OtherWeb": (), "NoLeading": (), "NoPictures": (),
    "NoBases": (), "NoPieces": (), "NoRow": (), "Endless": (), "Finite": (), "NoTurn": (),
    "NoWord": (), "NoLine": (), "NoStretch": (), "NoReaches": (), "NoStops": (),
    "NoExchange": (), "NoBars": (), "NoKind": (), "NoPencil": (), "NoSizes": (),
    "NothingDone": (),
}


def nested(make, depth, core=0):
    thing = core
    for _ in range(depth):
        thing = make(thing)
    return thing


def odd_things():
    """One thing of each kind that a stranger may pass; integers stand apart."""
    table = Table(3, 1, ((2,),))
    return [
        None, True, False, "", "2", "prime", "\n", b"", b"\x00\x01", (), (None,), (True,), (0, "0"),
        ((),), ((0,),), ([0],), (table,), (table, table), [], [0], [[0]], [()], {}, {0: 0}, {"a": ()},
        bytearray(b"12"), range(3), slice(0, 2), Ellipsis, NotImplemented, int, len, object(),
        ValueError("x"), errors.NoPrime(), errors.BadTable("wide"), table, memoryview(b"ab"),
        nested(lambda x: (x,), 40), nested(lambda x: [x], 40), nested(lambda x: {0: x}, 40),
        nested(lambda x: (x, [x]) if isinstance(x, int) else (x, []), 40), nested(lambda x: (0, x), 40),
        nested(lambda x: (x,), 38, table), tuple([()] * 5000), (0,) * 99999, [0] * 99999,
    ]


def far_numbers():
    """Integers below 0 and beyond all bounds."""
    return [-1, -2, -13, -(10 ** 11), 10 ** 12 - 1]


def columns(prime, length):
    return list(product(range(prime), repeat=length))


def tables(prime, high, wide):
    return [Table(prime, wide, rows) for rows in product(columns(prime, wide), repeat=high)]


def monics(prime, degree):
    return [worths + (1,) for worths in columns(prime, degree)]


def span(prime, length, rows):
    """The set of all linear sums, summed up one row behind another."""
    found = {(0,) * length}
    for row in rows:
        found = {tuple((a + k * b) % prime for a, b in zip(one, row))
                 for one in found for k in range(prime)}
    return found


def is_reduced(rows):
    """As 1.4 says it, word by word."""
    ahead = -1
    for number, row in enumerate(rows):
        places = [at for at, worth in enumerate(row) if worth]
        if not places or row[places[0]] != 1 or places[0] <= ahead:
            return False
        if any(other[places[0]] for at, other in enumerate(rows) if at != number):
            return False
        ahead = places[0]
    return True


class Mixer:
    """Mixed-up numbers, the same ones in each run."""

    def __init__(self, seed):
        self.state = seed * 7919 + 12345

    def below(self, bound):
        self.state = (self.state * 6364136223846793005 + 1442695040888963407) % 2 ** 64
        return (self.state >> 33) % bound

    def column(self, prime, length):
        return tuple(self.below(prime) for _ in range(length))

    def table(self, prime, high, wide):
        return Table(prime, wide, tuple(self.column(prime, wide) for _ in range(high)))

    def regular(self, prime, size):
        """A table that can be undone: an upper and a lower one, behind one another."""
        upper = [[self.below(prime) if j > i else int(i == j) for j in range(size)] for i in range(size)]
        lower = [[self.below(prime) if j < i else (1 + self.below(prime - 1)) * (i == j)
                  for j in range(size)] for i in range(size)]
        rows = [[sum(upper[i][k] * lower[k][j] for k in range(size)) % prime for j in range(size)]
                for i in range(size)]
        return Table(prime, size, tuple(tuple(row) for row in rows))


class Checks:
    """Beside TestCase: one call that must raise just one error, and change nothing."""

    def raises(self, name, call, /, *arguments, **fields):
        kind = getattr(errors, name)
        before = self.frozen(arguments)
        try:
            call(*arguments)
        except errors.WebError as error:
            self.assertIs(error.__class__, kind, (call, self.short(arguments)))
            self.assertEqual(vars(error), fields)
            for key, value in fields.items():
                self.assertIs(getattr(error, key).__class__, value.__class__)
        except Exception as error:
            self.fail((call, self.short(arguments), error.__class__))
        else:
            self.fail((call, self.short(arguments), "raised nothing"))
        self.assertEqual(self.frozen(arguments), before)

    def same_twice(self, call, *arguments):
        """The answer, which is the same again, the arguments being as they were."""
        before = self.frozen(arguments)
        answer = call(*arguments)
        self.assertEqual(self.frozen(call(*arguments)), self.frozen(answer))
        self.assertEqual(self.frozen(arguments), before)
        return answer

    def short(self, thing):
        return repr(thing)[:200]

    def frozen(self, thing):
        """What a thing holds, written out, to be compared with what it holds later."""
        if isinstance(thing, (list, tuple)) and len(thing) > 3000:
            return (thing.__class__, len(thing), self.frozen(thing[:99]), self.frozen(thing[-99:]))
        if isinstance(thing, (list, tuple)):
            return (thing.__class__, tuple(self.frozen(item) for item in thing))
        if isinstance(thing, dict):
            return (dict, tuple((self.frozen(k), self.frozen(v)) for k, v in thing.items()))
        if thing.__class__.__module__.startswith("mapwebs."):
            return (thing.__class__, self.frozen(vars(thing)))
        if isinstance(thing, (int, str, bytes, bytearray)):
            return (thing.__class__, copy.copy(thing))
        return id(thing)
