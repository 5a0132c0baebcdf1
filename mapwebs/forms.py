"""Forms of rows, kinds of parts, and which webs are endless."""

from mapwebs.checks import is_integer
from mapwebs.errors import Endless, NoRow
from mapwebs.tables import unit_rows
from mapwebs.webs import Web, parts

MOST_ITEM = 1000


def is_row(web, thing):
    """Whether a thing is a row of the web."""
    if not isinstance(thing, tuple) or len(thing) != web.many:
        return False
    return all([is_integer(item) and -MOST_ITEM <= item <= MOST_ITEM for item in thing])


def euler(web, one, other):
    """The sum of both rows' products at places, less those along arrows."""
    if not is_row(web, one) or not is_row(web, other):
        raise NoRow()
    along = sum([one[begin] * other[end] for begin, end in web.arrows])
    return sum([item * more for item, more in zip(one, other)]) - along


def form(web, row):
    """The sum of a row's squares, less the products along arrows."""
    return euler(web, row, row)


def other_ends(web, place):
    """The list of the other ends of the arrows at a place: one from it to itself has two."""
    found = []
    for begin, end in web.arrows:
        if begin == place:
            found.append(end)
        if end == place:
            found.append(begin)
    return found


def way_length(web, start, place):
    """How many places follow on the way that leads from the start to this place and on."""
    many = 1
    onward = [other for other in other_ends(web, place) if other != start]
    while len(onward) > 0:
        start, place = place, onward[0]
        many = many + 1
        onward = [other for other in other_ends(web, place) if other != start]
    return many


def kind_of(web, lot):
    """The kind of one of a web's parts, or None."""
    many = len(lot)
    met = {place: len(other_ends(web, place)) for place in lot}
    # Each arrow is met twice; what hangs together by so few has no ring, so all ways come to an end.
    if sum([met[place] for place in lot]) != 2 * (many - 1):
        return None
    forks = [place for place in lot if met[place] > 2]
    if len(forks) == 0:
        return "A", many
    if len(forks) > 1 or met[forks[0]] > 3:
        return None
    short, middle, far = sorted([way_length(web, forks[0], place) for place in other_ends(web, forks[0])])
    if short == 1 and middle == 1:
        return "D", many
    if short == 1 and middle == 2 and far <= 4:
        return "E", many
    return None


def kinds(web):
    """The list of the kinds of a web's parts, None for those of no kind."""
    return [kind_of(web, lot) for lot in parts(web)]


def least_endless(web):
    """A web of no kind that is left when all arrows are taken off such places as can miss them."""
    for place in range(web.many):
        arrows = [arrow for arrow in web.arrows if place not in arrow]
        fewer = Web(web.many, tuple(arrows))
        if None in kinds(fewer):
            web = fewer
    return web


def surplus(web, row, place):
    """By how much the items at the other ends of a place's arrows are above twice its own."""
    return sum([row[other] for other in other_ends(web, place)]) - 2 * row[place]


def raised(row, place, number):
    """The row with so many more at the place."""
    return row[:place] + (row[place] + number,) + row[place + 1:]


def turned_row(web, row, place):
    """The row with the sum of the items at the other ends, less its own, at a place without loops."""
    return raised(row, place, surplus(web, row, place))


def endless(web):
    """A row of numbers, not all 0, twice each of which is at most the sum around it, or None."""
    if None not in kinds(web):
        return None
    least = least_endless(web)
    places = list(range(web.many))
    row = unit_rows(web.many)[least.arrows[0][0]]
    # As long as the form is 1, some surplus is above 0, as the web is of no kind; where items
    # have grown to a form of 0 or less, none is below 0, as no place can be missed.
    while any([surplus(least, row, place) < 0 for place in places]):
        for place in places:
            if surplus(least, row, place) > 0:
                row = raised(row, place, 1)
                break
    return row


def rows(web):
    """The ascending list of all rows of numbers whose form is 1, of a finite web."""
    if endless(web) is not None:
        raise Endless()
    found = {}
    waiting = list(unit_rows(web.many))
    while len(waiting) > 0:
        row = waiting.pop()
        if row not in found:
            found[row] = True
            # With 1 more at a place the form is 1 again just where the surplus is 1.
            places = [place for place in range(web.many) if surplus(web, row, place) == 1]
            waiting.extend([raised(row, place, 1) for place in places])
    return sorted(found)
