"""Finite webs: pieces are told by their sizes, the rows whose form is 1."""

from mapwebs.checks import is_prime
from mapwebs.errors import Endless, NoPrime, NoRow
from mapwebs.forms import endless, euler, is_row, rows, turned_row
from mapwebs.pictures import picture_of
from mapwebs.tables import nought_of, unit_rows
from mapwebs.turns import lost, turn
from mapwebs.webs import turned_web


def ends_first(web):
    """The list of the places of a web without rings, each behind all to which its arrows lead."""
    found = []
    while len(found) < web.many:
        for place in range(web.many):
            ends = [end for begin, end in web.arrows if begin == place]
            if place not in found and all([end in found for end in ends]):
                found.append(place)
    return found


def single(web, prime, place):
    """The picture with size 1 at the place and 0 elsewhere."""
    sizes = unit_rows(web.many)[place]
    tables = [nought_of(prime, sizes[end], sizes[begin]) for begin, end in web.arrows]
    return picture_of(web, prime, sizes, tuple(tables))


def piece_of_row(web, prime, row):
    """The piece with these sizes, one of rows, of a finite web."""
    # Turned once all to which its arrows lead are, each place is an END in its turn, and so once
    # more in each round. A piece that is turned so comes to be of size 1 at the next END alone.
    places = ends_first(web)
    units = unit_rows(web.many)
    taken = []
    place = places[0]
    while row != units[place]:
        row = turned_row(web, row, place)
        web = turned_web(web, place)
        taken.append(place)
        place = places[len(taken) % len(places)]
    piece = single(web, prime, place)
    for place in taken[::-1]:
        piece = turn(piece, place)
    return piece


def demand_row(web, thing):
    """A thing is one of the rows of a finite web, or Endless or NoRow is raised."""
    known = rows(web)
    if not is_row(web, thing) or thing not in known:
        raise NoRow()


def piece_of(web, prime, row):
    """A piece of a finite web with these sizes."""
    if not is_prime(prime):
        raise NoPrime()
    demand_row(web, row)
    return piece_of_row(web, prime, row)


def leadings_told(web, one, other):
    """How many leadings there are from a piece with the one sizes to a piece with the other ones."""
    demand_row(web, one)
    demand_row(web, other)
    return max(0, euler(web, one, other))


def counts(picture):
    """The dict from sizes to how many of the pieces of a picture of a finite web have these."""
    if endless(picture.web) is not None:
        raise Endless()
    places = ends_first(picture.web)
    units = unit_rows(picture.web.many)
    taken = []
    found = {}
    # All that is lost at a turn was pieces that were of size 1 there alone by then.
    while any([size > 0 for size in picture.sizes]):
        place = places[len(taken) % len(places)]
        many = lost(picture, place)
        if many > 0:
            row = units[place]
            for earlier in taken[::-1]:
                row = turned_row(picture.web, row, earlier)
            found[row] = many
        picture = turn(picture, place)
        taken.append(place)
    return {row: found[row] for row in sorted(found)}
