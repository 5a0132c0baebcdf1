"""Lines: pieces are bars, told by the ranks of stretches."""

from mapwebs.checks import is_integer, is_number, is_prime
from mapwebs.errors import NoLine, NoNumber, NoPrime, NoReaches, NoStretch
from mapwebs.finite import counts
from mapwebs.pictures import picture_of
from mapwebs.tables import table_of
from mapwebs.webs import MOST_PLACES


def demand_line(web):
    """A web is a line, or NoLine is raised."""
    if len(web.arrows) != web.many - 1:
        raise NoLine()
    for at, arrow in enumerate(web.arrows):
        if arrow != (at, at + 1) and arrow != (at + 1, at):
            raise NoLine()


def demand_stretch(many, begin, end):
    """Begin and end are a stretch of so many places, or NoStretch is raised."""
    if not is_number(many - 1, begin) or not is_number(many - 1, end) or begin > end:
        raise NoStretch()


def bar_picture(web, prime, begin, end):
    """The picture of a line with size 1 and tables of 1 from begin to end, nothing elsewhere."""
    sizes = tuple([1 if begin <= place <= end else 0 for place in range(web.many)])
    tables = []
    for start, stop in web.arrows:
        tables.append(table_of(prime, sizes[start], ((1,) * sizes[start],) * sizes[stop]))
    return picture_of(web, prime, sizes, tuple(tables))


def bar_of(web, prime, begin, end):
    """The bar of a line that reaches from begin to end."""
    demand_line(web)
    if not is_prime(prime):
        raise NoPrime()
    demand_stretch(web.many, begin, end)
    return bar_picture(web, prime, begin, end)


def bars(picture):
    """The ascending tuple of triples of the begins, the ends, and how many there are of such bars."""
    demand_line(picture.web)
    found = []
    for sizes, many in counts(picture).items():
        begin = sizes.index(1)
        found.append((begin, begin + sum(sizes) - 1, many))
    return tuple(sorted(found))


def reach(picture, begin, end):
    """How many bars reach over all of a stretch, each as often as it is there."""
    demand_line(picture.web)
    demand_stretch(picture.web.many, begin, end)
    return sum([many for start, stop, many in bars(picture) if start <= begin and end <= stop])


def stretches(many):
    """The ascending list of the stretches of so many places."""
    return [(begin, end) for begin in range(many) for end in range(begin, many)]


def is_reaches(many, thing):
    """Whether a thing is a dict from just the stretches of so many places to numbers."""
    if not isinstance(thing, dict) or len(thing) != len(stretches(many)):
        return False
    for stretch in stretches(many):
        if stretch not in thing or not is_integer(thing[stretch]) or thing[stretch] < 0:
            return False
    return True


def count_told(told, begin, end):
    """How many bars from begin to end the reaches told leave."""
    wider = told.get((begin - 1, end), 0) + told.get((begin, end + 1), 0)
    return told[(begin, end)] - wider + told.get((begin - 1, end + 1), 0)


def bars_told(many, told):
    """The bars of all pictures with these reaches, or a stretch that shows that there is none."""
    if not is_number(MOST_PLACES, many) or many == 0:
        raise NoNumber()
    if not is_reaches(many, told):
        raise NoReaches()
    found = []
    for begin, end in stretches(many):
        count = count_told(told, begin, end)
        if count < 0:
            return "none", begin, end
        if count > 0:
            found.append((begin, end, count))
    return "bars", tuple(found)
