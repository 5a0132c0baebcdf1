"""Pictures of webs: a size at each place, a table along each arrow."""

from mapwebs.checks import is_number, is_prime
from mapwebs.errors import BadPicture, NoBases, NoPictures, NoPrime
from mapwebs.tables import Table, corner, is_table, times, undone
from mapwebs.webs import Web

MOST_SIZE = 6
MOST_PICTURES = 12


class Picture:
    """A web's places with columns modulo a prime, which tables lead along its arrows."""

    def __init__(self, web, prime, sizes, tables):
        if not isinstance(web, Web):
            raise BadPicture("web")
        if not is_prime(prime):
            raise BadPicture("prime")
        if not is_sizes(web, sizes):
            raise BadPicture("sizes")
        if not isinstance(tables, tuple) or len(tables) != len(web.arrows):
            raise BadPicture("tables")
        for at, table in enumerate(tables):
            begin, end = web.arrows[at]
            if not is_table(prime, sizes[end], sizes[begin], table):
                raise BadPicture(at)
        self.web = web
        self.prime = prime
        self.sizes = sizes
        self.tables = tables

    def __eq__(self, other):
        return (isinstance(other, Picture) and self.web == other.web and self.prime == other.prime
                and self.sizes == other.sizes and self.tables == other.tables)


def is_sizes(web, thing):
    """Whether a thing is a tuple with a number up to the most for each place."""
    if not isinstance(thing, tuple) or len(thing) != web.many:
        return False
    return all([is_number(MOST_SIZE, size) for size in thing])


def picture_of(web, prime, sizes, tables):
    """The picture of right sizes and tables, however great."""
    # The bounds hold where callers construct a picture, not for what is worked out.
    empty = Table(prime, 0, ())
    picture = Picture(web, prime, (0,) * web.many, (empty,) * len(web.arrows))
    picture.sizes = sizes
    picture.tables = tables
    return picture


def is_picture(web, prime, thing):
    """Whether a thing is a picture of this web and prime."""
    return isinstance(thing, Picture) and thing.web == web and thing.prime == prime


def laid_beside(web, prime, pictures):
    """Pictures of the web and prime side by side, however many."""
    sizes = [sum([picture.sizes[place] for picture in pictures]) for place in range(web.many)]
    tables = []
    for at in range(len(web.arrows)):
        whole = Table(prime, 0, ())
        for picture in pictures:
            whole = corner(whole, picture.tables[at])
        tables.append(whole)
    return picture_of(web, prime, tuple(sizes), tuple(tables))


def beside(web, prime, pictures):
    """Pictures of the web and prime side by side, the first ones ahead."""
    if not is_prime(prime):
        raise NoPrime()
    if not isinstance(pictures, (list, tuple)) or len(pictures) > MOST_PICTURES:
        raise NoPictures()
    if not all([is_picture(web, prime, picture) for picture in pictures]):
        raise NoPictures()
    return laid_beside(web, prime, pictures)


def ways_back(picture, tables):
    """The list of the tables that undo these, one for each place, or None."""
    if not isinstance(tables, tuple) or len(tables) != picture.web.many:
        return None
    found = []
    for size, table in zip(picture.sizes, tables):
        if not is_table(picture.prime, size, size, table):
            return None
        found.append(undone(table))
    if any([table is None for table in found]):
        return None
    return found


def based(picture, tables):
    """The picture to which the tables, one for each place, lead this one."""
    backs = ways_back(picture, tables)
    if backs is None:
        raise NoBases()
    found = []
    for arrow, table in zip(picture.web.arrows, picture.tables):
        begin, end = arrow
        found.append(times(times(tables[end], table), backs[begin]))
    return picture_of(picture.web, picture.prime, picture.sizes, tuple(found))
