"""Nearness: goings there and back between pictures of lines whose arrows all lead on."""

from mapwebs.barlists import paired_or_banned
from mapwebs.checks import is_number
from mapwebs.errors import NoLine, NoNumber
from mapwebs.leadings import demand_same_web
from mapwebs.spans import inverse, less, pivot, scaled_row
from mapwebs.tables import carried, is_table, plain_of, table_of, times, turned_about, undone, unit_rows

MOST_E = 8


def demand_onward(web):
    """A web is a line of arrows that all lead to the next place, or NoLine is raised."""
    if web.arrows != tuple([(at, at + 1) for at in range(web.many - 1)]):
        raise NoLine()


def demand_both(one, other, e):
    """Both are pictures of one such line and prime, and e a number, or an error is raised."""
    demand_onward(one.web)
    demand_onward(other.web)
    demand_same_web(one, other)
    if not is_number(MOST_E, e):
        raise NoNumber()


def place_at(picture, place):
    """The place itself, or the last one for places beyond it."""
    return min(place, picture.web.many - 1)


def way(picture, begin, end):
    """The table that leads from one place to another one, not ahead of it."""
    start = place_at(picture, begin)
    table = plain_of(picture.prime, picture.sizes[start])
    for at in range(start, place_at(picture, end)):
        table = times(picture.tables[at], table)
    return table


def is_going(one, other, e, thing):
    """Whether a thing is a going within e from the one picture to the other."""
    if not isinstance(thing, tuple) or len(thing) != one.web.many:
        return False
    for place, table in enumerate(thing):
        if not is_table(one.prime, other.sizes[place_at(other, place + e)], one.sizes[place], table):
            return False
    for place, table in enumerate(one.tables):
        if times(thing[place + 1], table) != times(way(other, place + e, place + 1 + e), thing[place]):
            return False
    return True


def comes_back(picture, e, there, onward):
    """Whether going there and then onward leads as the picture's own ways do."""
    for place, table in enumerate(there):
        if times(onward[place_at(picture, place + e)], table) != way(picture, place, place + 2 * e):
            return False
    return True


def is_near(one, other, e, thing):
    """Whether a thing is a meeting both ways within e of two pictures."""
    demand_both(one, other, e)
    if not isinstance(thing, tuple) or len(thing) != 2:
        return False
    there, onward = thing
    if not is_going(one, other, e, there) or not is_going(other, one, e, onward):
        return False
    return comes_back(one, e, there, onward) and comes_back(other, e, onward, there)


def told_apart(prime, alive, start, end):
    """Of pairs of a born and a row those nought from start to end, the others, and the places left."""
    gone = []
    kept = []
    pivots = {}
    for born, row in alive:
        # Elder ones are there wherever a younger one is: less these, it is still led on as a bar.
        rest = row
        for at, elder in pivots.items():
            rest = less(prime, rest, rest[at], elder)
        first = pivot(rest[start:end])
        if first is None:
            gone.append((born, rest))
        else:
            at = start + first
            pivots[at] = scaled_row(prime, rest, inverse(prime, rest[at]))
            kept.append((born, pivots[at]))
    return gone, kept, [at for at in range(start, end) if at not in pivots]


def bar_rows(picture):
    """The list of pairs of a bar, as (born, gone), and its columns at all places, one behind another."""
    prime = picture.prime
    found = []
    alive = []
    start = 0
    for place, size in enumerate(picture.sizes):
        if place > 0:
            table = picture.tables[place - 1]
            alive = [(born, row + list(carried(table, row[start - table.wide:]))) for born, row in alive]
        end = start + size
        gone, alive, fresh = told_apart(prime, alive, start, end)
        found.extend([((born, place), row) for born, row in gone])
        alive.extend([(place, [0] * start + list(unit_rows(size)[at - start])) for at in fresh])
        start = end
    found.extend([((born, None), row) for born, row in alive])
    return found


def is_there(bar, place):
    """Whether a bar is there at a place."""
    return bar[0] <= place and (bar[1] is None or place < bar[1])


def numbers_there(rows, place):
    """The list of the numbers of the bars that are there at a place."""
    return [number for number, pair in enumerate(rows) if is_there(pair[0], place)]


def base_at(picture, rows, place):
    """The table whose columns are those of the bars that are there at a place."""
    start = sum(picture.sizes[:place])
    end = start + picture.sizes[place]
    columns = [tuple(rows[number][1][start:end]) for number in numbers_there(rows, place)]
    return turned_about(table_of(picture.prime, end - start, tuple(columns)))


def going(one, other, rows, others, e, pairs):
    """The going that leads each bar of the one picture, where it is, to the one that it is paired with."""
    found = []
    for place in range(one.web.many):
        goal = place_at(other, place + e)
        lines = []
        for partner in numbers_there(others, goal):
            lines.append(tuple([1 if (number, partner) in pairs else 0 for number in numbers_there(rows, place)]))
        across = table_of(one.prime, one.sizes[place], tuple(lines))
        found.append(times(times(base_at(other, others, goal), across), undone(base_at(one, rows, place))))
    return tuple(found)


def near(one, other, e):
    """A meeting both ways within e of two pictures, or None."""
    demand_both(one, other, e)
    rows = bar_rows(one)
    others = bar_rows(other)
    pairs = paired_or_banned([bar for bar, row in rows], [bar for bar, row in others], e)[0]
    if pairs is None:
        return None
    turned = tuple([(partner, number) for number, partner in pairs])
    return going(one, other, rows, others, e, pairs), going(other, one, others, rows, e, turned)
