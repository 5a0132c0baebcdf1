"""Turns of pictures at places where all arrows end, or all begin."""

from mapwebs.errors import NoLeading, NoTurn
from mapwebs.leadings import demand_same_web, is_leading
from mapwebs.pictures import picture_of
from mapwebs.spans import pivot
from mapwebs.tables import (carried, columns_between, corner, kernel, nought_of, rank, side_by_side, stacked,
                            table_of, turned_about)
from mapwebs.webs import is_begin, is_end, turned_web


def demand_turn(web, place):
    """A place is an END or a BEGIN of the web, or NoTurn is raised."""
    if not is_end(web, place) and not is_begin(web, place):
        raise NoTurn()


def arrows_at(web, place):
    """The list of the numbers of the arrows that begin or end at a place."""
    return [at for at, arrow in enumerate(web.arrows) if place in arrow]


def neighbours(web, place):
    """The list of the other ends of the arrows at an END or BEGIN."""
    return [begin if end == place else end for begin, end in web.arrows if place in (begin, end)]


def gathered(picture, place):
    """The tables of the arrows at an END side by side, or of those at a BEGIN turned about so."""
    tables = [picture.tables[at] for at in arrows_at(picture.web, place)]
    if is_end(picture.web, place):
        return side_by_side(picture.prime, picture.sizes[place], tables)
    return turned_about(stacked(picture.prime, picture.sizes[place], tables))


def turned_columns(picture, place):
    """The columns that make up the new tables at a place: a kernel's, of all neighbours together."""
    return kernel(gathered(picture, place))


def turn(picture, place):
    """The picture of the turned web with a kernel in the stead of the space at the place."""
    demand_turn(picture.web, place)
    columns = turned_columns(picture, place)
    many = sum([picture.sizes[other] for other in neighbours(picture.web, place)])
    whole = table_of(picture.prime, many, columns)
    tables = list(picture.tables)
    start = 0
    for at, other in zip(arrows_at(picture.web, place), neighbours(picture.web, place)):
        end = start + picture.sizes[other]
        tables[at] = columns_between(whole, start, end)
        if is_end(picture.web, place):
            tables[at] = turned_about(tables[at])
        start = end
    sizes = picture.sizes[:place] + (len(columns),) + picture.sizes[place + 1:]
    return picture_of(turned_web(picture.web, place), picture.prime, sizes, tuple(tables))


def lost(picture, place):
    """How much of the space at the place a turn there forgets."""
    demand_turn(picture.web, place)
    return picture.sizes[place] - rank(gathered(picture, place))


def across_of(leading, prime, places):
    """The table that leads as a leading's tables at these places, each at its own part of a column."""
    across = nought_of(prime, 0, 0)
    for place in places:
        across = corner(across, leading[place])
    return across


def turned_leading(one, other, leading, place):
    """The leading between two turns that has the same tables at all other places."""
    demand_same_web(one, other)
    demand_turn(one.web, place)
    if not is_leading(one, other, leading):
        raise NoLeading()
    across = across_of(leading, one.prime, neighbours(one.web, place))
    old = turned_columns(one, place)
    new = turned_columns(other, place)
    # Kernels are reduced: what a sum of their columns takes of each stands at its pivot.
    if is_end(one.web, place):
        moved = [carried(across, column) for column in old]
        rows = [tuple([column[pivot(kept)] for column in moved]) for kept in new]
    else:
        moved = [carried(turned_about(across), column) for column in new]
        rows = [tuple([column[pivot(kept)] for kept in old]) for column in moved]
    return leading[:place] + (table_of(one.prime, len(old), tuple(rows)),) + leading[place + 1:]
