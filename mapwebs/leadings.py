"""Leadings: tables at each place that go along with all arrows of two pictures."""

from mapwebs.errors import NoLeading, OtherWeb
from mapwebs.spans import kernel_rows
from mapwebs.tables import Table, is_table, table_of, times, undone


def demand_same_web(one, other):
    """Two pictures are of the same web and prime, or OtherWeb is raised."""
    if one.web != other.web or one.prime != other.prime:
        raise OtherWeb()


def is_leading(one, other, thing):
    """Whether a thing is a leading from the one picture to the other."""
    demand_same_web(one, other)
    if not isinstance(thing, tuple) or len(thing) != one.web.many:
        return False
    for place, table in enumerate(thing):
        if not is_table(one.prime, other.sizes[place], one.sizes[place], table):
            return False
    for at, arrow in enumerate(one.web.arrows):
        begin, end = arrow
        if times(thing[end], one.tables[at]) != times(other.tables[at], thing[begin]):
            return False
    return True


def row_of(leading):
    """All worths of a leading's tables, by places, row by row."""
    worths = []
    for table in leading:
        for row in table.rows:
            worths.extend(row)
    return tuple(worths)


def leading_of(one, other, row):
    """The leading from the one picture to the other that is written as this row."""
    tables = []
    start = 0
    for wide, high in zip(one.sizes, other.sizes):
        rows = [row[start + at * wide:start + (at + 1) * wide] for at in range(high)]
        tables.append(table_of(one.prime, wide, tuple(rows)))
        start = start + high * wide
    return tuple(tables)


def starts_of(one, other):
    """The list of where each place's worths start in a row, and behind them where it ends."""
    starts = [0]
    for wide, high in zip(one.sizes, other.sizes):
        starts.append(starts[-1] + high * wide)
    return starts


def conditions(one, other):
    """The list of the rows that lead just the leadings, written as rows, to noughts."""
    starts = starts_of(one, other)
    rows = []
    for arrow, first, second in zip(one.web.arrows, one.tables, other.tables):
        begin, end = arrow
        for high in range(second.high):
            for wide in range(first.wide):
                row = [0] * starts[-1]
                # An arrow may lead back to its begin: both sides then meet in the same worths.
                for at in range(first.high):
                    row[starts[end] + high * first.high + at] += first.rows[at][wide]
                for at in range(second.wide):
                    row[starts[begin] + at * first.wide + wide] -= second.rows[high][at]
                rows.append([worth % one.prime for worth in row])
    return rows


def leadings(one, other):
    """The list of the leadings that, as reduced rows, span all from the one to the other."""
    demand_same_web(one, other)
    rows = kernel_rows(one.prime, starts_of(one, other)[-1], conditions(one, other))
    return [leading_of(one, other, row) for row in rows]


def many_leadings(one, other):
    """How many leadings span all from the one picture to the other."""
    return len(leadings(one, other))


def is_tables(thing):
    """Whether a thing is a tuple of tables."""
    return isinstance(thing, tuple) and all([isinstance(table, Table) for table in thing])


def behind(first, second):
    """The second leading behind the first one."""
    if not is_tables(first) or not is_tables(second) or len(first) != len(second):
        raise NoLeading()
    for table, other in zip(first, second):
        if not is_table(other.prime, other.wide, table.wide, table):
            raise NoLeading()
    return tuple([times(other, table) for table, other in zip(first, second)])


def back(leading):
    """The tuple of the tables that undo a leading's, or None if one has none."""
    if not is_tables(leading):
        raise NoLeading()
    found = tuple([undone(table) for table in leading])
    if any([table is None for table in found]):
        return None
    return found
