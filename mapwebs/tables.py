"""Tables of worths modulo a prime, and what they do to columns."""

from mapwebs.checks import is_column, is_integer, is_number, is_prime
from mapwebs.errors import BadTable, NoColumn, NoFit, NoNumber, NoPrime
from mapwebs.spans import kernel_rows, pivot, reduced_rows

MOST = 12


class Table:
    """Rows of worths of a prime, all of the same length."""

    def __init__(self, prime, wide, rows):
        if not is_prime(prime):
            raise BadTable("prime")
        if not is_number(MOST, wide):
            raise BadTable("wide")
        if not isinstance(rows, tuple) or len(rows) > MOST:
            raise BadTable("rows")
        for at, row in enumerate(rows):
            if not is_column(prime, wide, row):
                raise BadTable(at)
        self.prime = prime
        self.wide = wide
        self.rows = rows
        self.high = len(rows)

    def __eq__(self, other):
        return (isinstance(other, Table) and self.prime == other.prime
                and self.wide == other.wide and self.rows == other.rows)


def is_table(prime, high, wide, thing):
    """Whether a thing is a table of this prime, so high and wide."""
    if not isinstance(thing, Table) or thing.prime != prime:
        return False
    return thing.high == high and thing.wide == wide


def table_of(prime, wide, rows):
    """The table of a tuple of right rows, however many and long."""
    # The bounds hold where callers construct a table, not for what is worked out.
    table = Table(prime, 0, ())
    table.wide = wide
    table.rows = rows
    table.high = len(rows)
    return table


def carried(table, column):
    """What a table leads a right column to."""
    return tuple([sum([worth * item for worth, item in zip(row, column)]) % table.prime
                  for row in table.rows])


def led(table, column):
    """What a table leads a column to."""
    if not is_column(table.prime, table.wide, column):
        raise NoColumn()
    return carried(table, column)


def columns_of(table):
    """The tuple of the columns of a table."""
    return tuple([tuple([row[at] for row in table.rows]) for at in range(table.wide)])


def times(one, other):
    """The table that leads as the other does and then as the one."""
    if one.prime != other.prime or one.wide != other.high:
        raise NoFit()
    columns = [carried(one, column) for column in columns_of(other)]
    rows = tuple([tuple([column[at] for column in columns]) for at in range(one.high)])
    return table_of(one.prime, other.wide, rows)


def plus(one, other):
    """The sum of two tables, worth by worth."""
    if one.prime != other.prime or one.wide != other.wide or one.high != other.high:
        raise NoFit()
    rows = []
    for row, added in zip(one.rows, other.rows):
        rows.append(tuple([(worth + more) % one.prime for worth, more in zip(row, added)]))
    return table_of(one.prime, one.wide, tuple(rows))


def scaled(table, number):
    """Each worth of a table times the number."""
    if not is_integer(number):
        raise NoNumber()
    rows = [tuple([worth * number % table.prime for worth in row]) for row in table.rows]
    return table_of(table.prime, table.wide, tuple(rows))


def turned_about(table):
    """The table whose rows are the columns of this one."""
    return table_of(table.prime, table.high, columns_of(table))


def unit_rows(size):
    """The tuple of the rows that have 1 at their own number and noughts elsewhere."""
    return tuple([(0,) * at + (1,) + (0,) * (size - at - 1) for at in range(size)])


def plain_of(prime, size):
    """The table, of any size, that leads each column to itself."""
    return table_of(prime, size, unit_rows(size))


def plain(prime, size):
    """The table that leads each column of so many worths to itself."""
    if not is_prime(prime):
        raise NoPrime()
    if not is_number(MOST, size):
        raise NoNumber()
    return plain_of(prime, size)


def nought_of(prime, high, wide):
    """The table of noughts, however high and wide."""
    return table_of(prime, wide, ((0,) * wide,) * high)


def nought(prime, high, wide):
    """The table of noughts, so high and wide."""
    if not is_prime(prime):
        raise NoPrime()
    if not is_number(MOST, high) or not is_number(MOST, wide):
        raise NoNumber()
    return nought_of(prime, high, wide)


def corner(one, other):
    """The one table and, behind and beneath it, the other one, with noughts elsewhere."""
    if one.prime != other.prime:
        raise NoFit()
    ahead = [row + (0,) * other.wide for row in one.rows]
    beneath = [(0,) * one.wide + row for row in other.rows]
    return table_of(one.prime, one.wide + other.wide, tuple(ahead + beneath))


def side_by_side(prime, high, tables):
    """The table of tables that are so high, one behind another."""
    rows = []
    for at in range(high):
        row = []
        for table in tables:
            row.extend(table.rows[at])
        rows.append(tuple(row))
    return table_of(prime, sum([table.wide for table in tables]), tuple(rows))


def stacked(prime, wide, tables):
    """The table of tables that are so wide, one beneath another."""
    return table_of(prime, wide, tuple([row for table in tables for row in table.rows]))


def rows_between(table, start, end):
    """The table of the rows from start on to the one ahead of end."""
    return table_of(table.prime, table.wide, table.rows[start:end])


def columns_between(table, start, end):
    """The table of the columns from start on to the one ahead of end."""
    return table_of(table.prime, end - start, tuple([row[start:end] for row in table.rows]))


def reduced(table):
    """The reduced table whose rows span what the table's rows span."""
    return table_of(table.prime, table.wide, reduced_rows(table.prime, table.rows))


def rank(table):
    """How high the reduced table is."""
    return len(reduced_rows(table.prime, table.rows))


def kernel(table):
    """The reduced rows that span the columns that the table leads to noughts."""
    return kernel_rows(table.prime, table.wide, table.rows)


def image(table):
    """The reduced rows that span the columns to which the table leads."""
    return reduced_rows(table.prime, columns_of(table))


def solved(table, column):
    """A column that the table leads to this one, or None."""
    if not is_column(table.prime, table.high, column):
        raise NoColumn()
    widened = [row + (worth,) for row, worth in zip(table.rows, column)]
    found = [0] * table.wide
    for row in reduced_rows(table.prime, widened):
        at = pivot(row)
        if at == table.wide:
            return None
        found[at] = row[table.wide]
    return tuple(found)


def undone(table):
    """The table that leads all back, or None if there is none."""
    size = table.wide
    if table.high != size:
        return None
    unit = unit_rows(size)
    widened = [row + beside for row, beside in zip(table.rows, unit)]
    rows = reduced_rows(table.prime, widened)
    if tuple([row[:size] for row in rows]) != unit:
        return None
    return table_of(table.prime, size, tuple([row[size:] for row in rows]))
