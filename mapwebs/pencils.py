"""Pencils: the pieces of two places with two arrows from the one to the other."""

from mapwebs.checks import is_number, is_prime
from mapwebs.errors import NoKind, NoPencil, NoPrime
from mapwebs.loops import is_factor, is_power, loop_kinds, power_companion
from mapwebs.pictures import picture_of
from mapwebs.spans import cleared, pivot, reduced_rows, sum_of_rows
from mapwebs.tables import carried, columns_of, kernel, plain_of, solved, table_of, turned_about, unit_rows
from mapwebs.webs import Web

MOST_SIZE = 12
ONLY_X = (0, 1)


def pencil_web():
    """The web of all pencils."""
    return Web(2, ((0, 1), (0, 1)))


def is_kind(prime, thing):
    """Whether a thing is a kind of pencil of this prime, of sizes that are not too great."""
    if not isinstance(thing, tuple) or not 2 <= len(thing) <= 3:
        return False
    if len(thing) == 3:
        return thing[0] == "even" and is_factor(prime, thing[1]) and is_power(thing[1], thing[2])
    if thing[0] == "last":
        return is_power(ONLY_X, thing[1])
    return thing[0] in ("up", "down") and is_number(MOST_SIZE - 1, thing[1])


def up_tables(prime, many):
    """The two tables that lead each place to the same one, and to the next one, of one more."""
    units = unit_rows(many)
    nought = ((0,) * many,)
    return table_of(prime, many, units + nought), table_of(prime, many, nought + units)


def tables_of_kind(prime, kind):
    """The two tables of the pencil of a kind."""
    if kind[0] == "up":
        return up_tables(prime, kind[1])
    if kind[0] == "down":
        first, second = up_tables(prime, kind[1])
        return turned_about(first), turned_about(second)
    if kind[0] == "even":
        table = power_companion(prime, kind[1], kind[2])
        return plain_of(prime, table.wide), table
    return power_companion(prime, ONLY_X, kind[1]), plain_of(prime, kind[1])


def pencil_of(prime, kind):
    """The pencil of a kind."""
    if not is_prime(prime):
        raise NoPrime()
    if not is_kind(prime, kind):
        raise NoKind()
    first, second = tables_of_kind(prime, kind)
    return picture_of(pencil_web(), prime, (first.wide, first.high), (first, second))


def led_rows(table, rows):
    """The reduced rows that span all to which a table leads what these rows span."""
    return reduced_rows(table.prime, [carried(table, row) for row in rows])


def led_into(table, rows):
    """The reduced rows that span all that a table leads into what these reduced rows span."""
    kept = {pivot(row): row for row in rows}
    rests = [cleared(table.prime, column, kept) for column in columns_of(table)]
    return kernel(turned_about(table_of(table.prime, table.high, tuple(rests))))


def steps_to_end(first, second, rows):
    """The list of some rows, of those that first leads to where second leads these, and so on to the last."""
    found = [rows]
    following = led_into(first, led_rows(second, rows))
    while following != found[-1]:
        found.append(following)
        following = led_into(first, led_rows(second, following))
    return found


def spanned_by(prime, length, rows):
    """The table whose columns are these rows of this length."""
    return turned_about(table_of(prime, length, rows))


def met(table, rows, others):
    """The reduced rows that span what both these rows and the others span, at the begin of a table."""
    inside = spanned_by(table.prime, table.wide, rows)
    return led_rows(inside, led_into(inside, others))


def many_downs(first, second):
    """The list of pairs of n and how many pieces are down so far as n."""
    # Of each down piece the one way of steps, met with the end of the other one, takes one place more
    # at each step until it has all; of other pieces it takes none.
    end = steps_to_end(second, first, ())[-1]
    sizes = [len(met(first, end, rows)) for rows in steps_to_end(first, second, ())]
    more = [after - before for before, after in zip(sizes, sizes[1:])] + [0]
    return [(at, more[at] - more[at + 1]) for at in range(len(more) - 1)]


def rows_of_downs(first, second):
    """The reduced rows that span what all down pieces have at the first place."""
    return met(first, steps_to_end(second, first, ())[-1], steps_to_end(first, second, ())[-1])


def even_table(first, second, downs):
    """The table that leads on, at the first place of the even pieces, as second and then first back."""
    # Starting from all, the steps end with what the down and the even pieces have.
    prime = first.prime
    whole = steps_to_end(second, first, unit_rows(first.wide))[-1]
    kept = {pivot(row): row for row in downs}
    base = reduced_rows(prime, [cleared(prime, row, kept) for row in whole])
    reached = spanned_by(prime, first.high, tuple([carried(first, row) for row in whole]))
    columns = []
    for row in base:
        worths = solved(reached, carried(second, row))
        found = cleared(prime, sum_of_rows(prime, first.wide, worths, whole), kept)
        columns.append(tuple([found[pivot(other)] for other in base]))
    return spanned_by(prime, len(base), tuple(columns))


def pencil_kinds(picture):
    """The ascending tuple of pairs of a kind and how many pieces of a pencil are of it."""
    if picture.web != pencil_web():
        raise NoPencil()
    first, second = picture.tables
    downs = rows_of_downs(first, second)
    found = [(("down", at), many) for at, many in many_downs(first, second)]
    found.extend([(("up", at), many) for at, many in many_downs(turned_about(first), turned_about(second))])
    for poly, power, many in loop_kinds(even_table(first, second, downs)):
        found.append((("even", poly, power), many))
    for poly, power, many in loop_kinds(even_table(second, first, downs)):
        # With the tables exchanged, the last pieces are those where x alone comes to noughts.
        if poly == ONLY_X:
            found.append((("last", power), many))
    return tuple(sorted([pair for pair in found if pair[1] > 0]))
