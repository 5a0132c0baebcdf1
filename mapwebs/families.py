"""Families: of each web that is not finite there are pieces of any number of times a row."""

from mapwebs.checks import is_number, is_prime
from mapwebs.errors import Finite, NoNumber, NoPrime
from mapwebs.finite import piece_of_row
from mapwebs.forms import endless
from mapwebs.pictures import laid_beside, picture_of
from mapwebs.polynomials import companion
from mapwebs.tables import nought_of, plain_of, table_of, turned_about
from mapwebs.webs import Web

MOST_TIMES = 3


def numbers_of_rest(web, row, place):
    """The list of the numbers of the arrows between the row's places other than this one."""
    inside = [item > 0 for item in row]
    return [at for at, arrow in enumerate(web.arrows)
            if place not in arrow and inside[arrow[0]] and inside[arrow[1]]]


def rest_tables(web, prime, row, place, many):
    """The dict from the numbers of these arrows to tables of so many alike pieces beside one another."""
    numbers = numbers_of_rest(web, row, place)
    rest = Web(web.many, tuple([web.arrows[at] for at in numbers]))
    sizes = row[:place] + (0,) + row[place + 1:]
    pieces = []
    if any([size > 0 for size in sizes]):
        pieces = [piece_of_row(rest, prime, sizes)] * many
    laid = laid_beside(rest, prime, pieces)
    return {at: table for at, table in zip(numbers, laid.tables)}


def block(prime, size, number):
    """What leads between the place and the others: a plain table, one that is its own, then noughts."""
    if number == 0:
        return plain_of(prime, size)
    if number == 1:
        return companion(prime, (0,) * size + (1,))
    return nought_of(prime, size, size)


def woven(prime, size, blocks):
    """The table with a row of each of the blocks by turns."""
    return table_of(prime, size, tuple([table.rows[at] for at in range(size) for table in blocks]))


def arrow_table(prime, size, arrow, place, blocks):
    """The table of an arrow at the place, from or to which it leads by these blocks."""
    begin, end = arrow
    if begin == end:
        return blocks[1]
    if begin == place:
        return woven(prime, size, blocks)
    return turned_about(woven(prime, size, [turned_about(table) for table in blocks]))


def family_tables(web, prime, row, place, many):
    """The list of the tables of a piece that is so many times the row."""
    # The rest is a piece with plain leadings alone, and what a leading to itself does there it
    # does to the place too, by the first block: so it can be exchanged with the second one.
    rest = rest_tables(web, prime, row, place, many)
    found = []
    taken = 0
    for at, arrow in enumerate(web.arrows):
        begin, end = arrow
        if at in rest:
            found.append(rest[at])
        elif place in arrow:
            more = row[begin] + row[end] - row[place]
            if begin == end:
                more = 2
            blocks = [block(prime, many, number) for number in range(taken, taken + more)]
            found.append(arrow_table(prime, many, arrow, place, blocks))
            taken = taken + more
        else:
            found.append(nought_of(prime, row[end] * many, row[begin] * many))
    return found


def family(web, prime, times):
    """A pair of the row that endless tells and a piece whose sizes are so many times it."""
    if not is_prime(prime):
        raise NoPrime()
    row = endless(web)
    if row is None:
        raise Finite()
    if not is_number(MOST_TIMES, times) or times == 0:
        raise NoNumber()
    tables = family_tables(web, prime, row, row.index(1), times)
    sizes = tuple([item * times for item in row])
    return row, picture_of(web, prime, sizes, tuple(tables))
