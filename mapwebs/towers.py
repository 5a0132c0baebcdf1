"""Towers: things that grow cell by cell, and the bars of their rings."""

from mapwebs.checks import is_ascending, is_number, is_prime
from mapwebs.errors import BadTower, NoExchange, NoNumber, NoPrime, NoStops
from mapwebs.lines import bar_picture
from mapwebs.pictures import laid_beside
from mapwebs.spans import keep
from mapwebs.webs import line

MOST_CELLS = 40
MOST_IN_CELL = 4
MOST_NAME = 29
MOST_DEEP = 3
MOST_STOPS = 8


class Tower:
    """Cells, lots of numbers, each behind all its faces."""

    def __init__(self, cells):
        if not isinstance(cells, tuple) or len(cells) > MOST_CELLS:
            raise BadTower(-1)
        for at, cell in enumerate(cells):
            if not is_cell(cell) or cell in cells[:at]:
                raise BadTower(at)
            if not all([face in cells[:at] for face in faces(cell)]):
                raise BadTower(at)
        self.cells = cells

    def __eq__(self, other):
        return isinstance(other, Tower) and self.cells == other.cells


def is_cell(thing):
    """Whether a thing is a lot of numbers that may be a cell."""
    return is_ascending(MOST_NAME, thing) and 1 <= len(thing) <= MOST_IN_CELL


def faces(cell):
    """The list of the cells that lack one of a cell's numbers, the first one first."""
    if len(cell) == 1:
        return []
    return [cell[:at] + cell[at + 1:] for at in range(len(cell))]


def rim_row(cells, prime, cell):
    """The worths of a cell's rim at all cells, the last cell ahead."""
    row = [0] * len(cells)
    for at, face in enumerate(faces(cell)):
        row[len(cells) - 1 - cells.index(face)] = 1 if at % 2 == 0 else prime - 1
    return row


def tower_bars(tower, prime, deep):
    """The ascending tuple of pairs of cells: by the first one a ring is born, by the second it is gone."""
    if not is_prime(prime):
        raise NoPrime()
    if not is_number(MOST_DEEP, deep):
        raise NoNumber()
    born = []
    gone = {}
    kept = {}
    for at, cell in enumerate(tower.cells):
        # A cell with a new rim fills in the ring whose last cell came last; another one closes a ring.
        place = keep(prime, rim_row(tower.cells, prime, cell), kept)
        if place is not None:
            gone[len(tower.cells) - 1 - place] = at
        elif len(cell) == deep + 1:
            born.append(at)
    return tuple([(at, gone.get(at)) for at in born])


def bar_over(web, prime, stops, born, gone):
    """The list of the one bar of the stops at which a ring is there, empty if there are none."""
    there = [at for at, stop in enumerate(stops) if born < stop and (gone is None or stop <= gone)]
    if len(there) == 0:
        return []
    return [bar_picture(web, prime, there[0], there[-1])]


def tower_picture(tower, prime, deep, stops):
    """The picture of a line with the rings that are there at each of the stops."""
    pairs = tower_bars(tower, prime, deep)
    if not is_ascending(len(tower.cells), stops) or not 1 <= len(stops) <= MOST_STOPS:
        raise NoStops()
    web = line(">" * (len(stops) - 1))
    found = []
    for born, gone in pairs:
        found.extend(bar_over(web, prime, stops, born, gone))
    return laid_beside(web, prime, found)


def exchanged(tower, at):
    """The tower with two cells, one behind the other, exchanged."""
    if not is_number(len(tower.cells) - 2, at):
        raise NoNumber()
    first, second = tower.cells[at], tower.cells[at + 1]
    if first in faces(second):
        raise NoExchange()
    return Tower(tower.cells[:at] + (second, first) + tower.cells[at + 2:])
