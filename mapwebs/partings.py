"""Partings: pictures taken apart into pieces, and pictures that are alike."""

from mapwebs.errors import NoPieces
from mapwebs.leadings import back, behind, demand_same_web, is_leading, leading_of, leadings, row_of
from mapwebs.pictures import is_picture, laid_beside, picture_of
from mapwebs.polynomials import at_table, factors, least_polynomial
from mapwebs.seals import is_piece, seal_of
from mapwebs.spans import sum_of_rows
from mapwebs.tables import (columns_between, kernel, plain_of, rows_between, side_by_side, table_of, times,
                            turned_about, undone)

MOST_PIECES = 12


def powers_at(prime, leading):
    """For each table of a leading, the dict from prime polynomials to their powers in its least one."""
    found = []
    for table in leading:
        pairs = factors(prime, least_polynomial(table))
        found.append({poly: power for poly, power in pairs})
    return found


def polys_of(powers):
    """The ascending list of the prime polynomials that such dicts have."""
    found = {}
    for told in powers:
        for poly in told:
            found[poly] = True
    return sorted(found)


def ground(table, poly, power):
    """The columns that poly, so many times as a factor, leads to noughts at a table."""
    step = at_table(poly, table)
    total = plain_of(table.prime, table.wide)
    for _ in range(power):
        total = times(total, step)
    return kernel(total)


def grounds(prime, leading):
    """For each table of a leading, the list of the columns by the leading's prime polynomials."""
    powers = powers_at(prime, leading)
    polys = polys_of(powers)
    found = []
    for table, told in zip(leading, powers):
        found.append([ground(table, poly, told.get(poly, 0)) for poly in polys])
    return found


def part_of(picture, inward, outward):
    """The part of a picture that is led into it and, by tables at each place, out of it again."""
    tables = []
    for arrow, table in zip(picture.web.arrows, picture.tables):
        begin, end = arrow
        tables.append(times(times(outward[end], table), inward[begin]))
    sizes = tuple([table.wide for table in inward])
    return picture_of(picture.web, picture.prime, sizes, tuple(tables))


def torn(picture, leading):
    """The list of pairs of a part and how it is led into the picture, by a leading to itself."""
    columns = grounds(picture.prime, leading)
    wholes = []
    for place, size in enumerate(picture.sizes):
        lines = tuple([column for some in columns[place] for column in some])
        wholes.append(turned_about(table_of(picture.prime, size, lines)))
    backs = [undone(whole) for whole in wholes]
    starts = [0] * picture.web.many
    found = []
    for number in range(len(columns[0])):
        inward, outward = [], []
        for place, whole in enumerate(wholes):
            end = starts[place] + len(columns[place][number])
            inward.append(columns_between(whole, starts[place], end))
            outward.append(rows_between(backs[place], starts[place], end))
            starts[place] = end
        found.append((part_of(picture, inward, outward), tuple(inward)))
    return found


def strides(prime, many):
    """So many worths, one at least, without a pattern: the first one is 1."""
    found = [1]
    rest = 618034
    while len(found) < many:
        rest = rest * prime
        found.append(rest // 1000003)
        rest = rest % 1000003
    return found


def next_worths(prime, worths):
    """The worths to be tried behind these: taken one behind another, they are all that there are."""
    # As figures of a number, the first one least, they grow by a stride that the prime does not divide.
    found = []
    over = 0
    for worth, stride in zip(worths, strides(prime, len(worths))):
        total = worth + stride + over
        found.append(total % prime)
        over = total // prime
    return found


def summed(picture, own, worths):
    """The linear sum of leadings from the picture to itself, each times its worth."""
    own_rows = [row_of(leading) for leading in own]
    return leading_of(picture, picture, sum_of_rows(picture.prime, len(own_rows[0]), worths, own_rows))


def tears(prime, leading):
    """Whether a leading to itself has more than one prime polynomial, so that it parts the picture."""
    return len(polys_of(powers_at(prime, leading))) > 1


def tearing(picture):
    """A leading to itself that parts a picture which is not empty, or None if this is a piece."""
    own = leadings(picture, picture)
    for leading in own:
        if tears(picture.prime, leading):
            return leading
    if seal_of(picture, own) is not None:
        return None
    # Of what is no piece more than a third of all sums are such.
    worths = next_worths(picture.prime, [0] * len(own))
    while not tears(picture.prime, summed(picture, own, worths)):
        worths = next_worths(picture.prime, worths)
    return summed(picture, own, worths)


def taken_apart(picture):
    """The list of pairs of a piece and how it is led into the picture."""
    waiting = []
    if any([size > 0 for size in picture.sizes]):
        waiting.append((picture, tuple([plain_of(picture.prime, size) for size in picture.sizes])))
    found = []
    while len(waiting) > 0:
        part, way = waiting.pop()
        leading = tearing(part)
        if leading is None:
            found.append((part, way))
        else:
            waiting.extend([(smaller, behind(inward, way)) for smaller, inward in torn(part, leading)])
    return found


def laid_leading(picture, ways):
    """The leading to the picture from what these ways lead to it, laid beside one another."""
    found = []
    for place, size in enumerate(picture.sizes):
        found.append(side_by_side(picture.prime, size, [way[place] for way in ways]))
    return tuple(found)


def parting(picture):
    """A pair of pieces and a leading, which has a back, from these laid beside to the picture."""
    found = taken_apart(picture)
    return tuple([piece for piece, way in found]), laid_leading(picture, [way for piece, way in found])


def are_sizes_of(picture, pieces):
    """Whether pieces laid beside one another have the sizes of the picture."""
    for place, size in enumerate(picture.sizes):
        if sum([piece.sizes[place] for piece in pieces]) != size:
            return False
    return True


def is_parting(picture, thing):
    """Whether a thing is a parting of the picture."""
    if not isinstance(thing, tuple) or len(thing) != 2 or not isinstance(thing[0], tuple):
        return False
    pieces, leading = thing
    if not all([is_picture(picture.web, picture.prime, piece) for piece in pieces]):
        return False
    if not are_sizes_of(picture, pieces):
        return False
    if not is_leading(laid_beside(picture.web, picture.prime, pieces), picture, leading):
        return False
    return back(leading) is not None and all([is_piece(piece) for piece in pieces])


def alike_pieces(one, other):
    """A leading from the one piece to the other that has a back, or None."""
    if one.sizes != other.sizes:
        return None
    # Those without a back have sums without a back alone, so any that span all have one with.
    for leading in leadings(one, other):
        if back(leading) is not None:
            return leading
    return None


def paired(pieces, others):
    """For each piece the pair of the number of another one and a leading to it with a back, or None."""
    free = list(range(len(others)))
    found = []
    for piece in pieces:
        taken = None
        for number in free:
            leading = alike_pieces(piece, others[number])
            if leading is not None:
                taken = (number, leading)
                break
        if taken is None:
            return None
        free.remove(taken[0])
        found.append(taken)
    return found


def alike(one, other):
    """A leading from the one picture to the other that has a back, or None."""
    demand_same_web(one, other)
    if one.sizes != other.sizes:
        return None
    apart = taken_apart(one)
    other_apart = taken_apart(other)
    if len(apart) != len(other_apart):
        return None
    pairs = paired([piece for piece, way in apart], [piece for piece, way in other_apart])
    if pairs is None:
        return None
    inward = laid_leading(one, [way for piece, way in apart])
    across = laid_leading(other, [behind(leading, other_apart[number][1]) for number, leading in pairs])
    return behind(back(inward), across)


def demand_pieces(thing):
    """A thing is a list or tuple of pieces, not too many, or NoPieces is raised."""
    if not isinstance(thing, (list, tuple)) or len(thing) > MOST_PIECES:
        raise NoPieces()
    if not all([is_piece(piece) for piece in thing]):
        raise NoPieces()


def matched(pieces, others):
    """For each piece the number of another one that it is alike to, each once, or None."""
    demand_pieces(pieces)
    demand_pieces(others)
    every = list(pieces) + list(others)
    for piece in every[1:]:
        demand_same_web(every[0], piece)
    if len(pieces) != len(others):
        return None
    pairs = paired(pieces, others)
    if pairs is None:
        return None
    return tuple([number for number, leading in pairs])
