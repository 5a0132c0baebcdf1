"""Seals: what shows that a picture is a piece."""

from mapwebs.leadings import behind, is_leading, leading_of, leadings, row_of
from mapwebs.pictures import Picture
from mapwebs.polynomials import at_table, factors, is_polynomial, is_prime_polynomial, least_polynomial
from mapwebs.spans import cleared, kernel_rows, pivot, reduced_rows, sum_of_rows
from mapwebs.tables import carried, plus, scaled, table_of, times, unit_rows


def narrowest(sizes):
    """The first place of the least size above 0, or None."""
    found = None
    for place, size in enumerate(sizes):
        if size > 0 and (found is None or size < sizes[found]):
            found = place
    return found


def spanning(prime, size, tables):
    """A list of tables, not too many, that span what these ones of this size span."""
    rows = reduced_rows(prime, [row_of((table,)) for table in tables])
    found = []
    for row in rows:
        lines = [row[at * size:(at + 1) * size] for at in range(size)]
        found.append(table_of(prime, size, tuple(lines)))
    return found


def suspects(prime, tables):
    """Tables that must be in the ideal of a piece, or None if these show that there is none."""
    # In a piece each leading has one prime polynomial alone, and but for the ideal all
    # leadings can be exchanged when one stands behind another.
    found = []
    for table in tables:
        pairs = factors(prime, least_polynomial(table))
        if len(pairs) != 1:
            return None
        found.append(at_table(pairs[0][0], table))
    for at, table in enumerate(tables):
        for other in tables[:at]:
            found.append(plus(times(table, other), scaled(times(other, table), -1)))
    return found


def moved_rows(prime, tables, rows):
    """The reduced rows that span all to which the tables lead the rows."""
    return reduced_rows(prime, [carried(table, row) for table in tables for row in rows])


def ground_rows(prime, size, tables):
    """Reduced rows, not none, that a piece's ideal leads to noughts, or None for no piece.

    The tables are those of all leadings to itself at one place: they lead the span of
    these rows into itself.
    """
    spread = spanning(prime, size, tables)
    doubted = suspects(prime, spread)
    if doubted is None:
        return None
    doubted = spanning(prime, size, doubted)
    rows = unit_rows(size)
    moved = moved_rows(prime, spread, moved_rows(prime, doubted, rows))
    while len(moved) > 0:
        # What an ideal leads to is less each time, or it never comes to noughts.
        if len(moved) == len(rows):
            return None
        rows = moved
        moved = moved_rows(prime, spread, moved_rows(prime, doubted, rows))
    return rows


def restricted(table, rows):
    """The table that a table is on the span of reduced rows, which it leads into itself."""
    pivots = [pivot(row) for row in rows]
    columns = [carried(table, row) for row in rows]
    lines = [tuple([column[at] for column in columns]) for at in pivots]
    return table_of(table.prime, len(rows), tuple(lines))


def led_to_nought(picture, own, tables):
    """The tuple of the reduced leadings whose sums are those at whose sums of tables noughts are."""
    written = [row_of((table,)) for table in tables]
    rows = [[worths[at] for worths in written] for at in range(len(written[0]))]
    own_rows = [row_of(leading) for leading in own]
    found = []
    # Sums of reduced rows, with worths that are reduced rows themselves, are reduced again.
    for times_each in kernel_rows(picture.prime, len(own), rows):
        total = sum_of_rows(picture.prime, len(own_rows[0]), times_each, own_rows)
        found.append(leading_of(picture, picture, total))
    return tuple(found)


def come_to_noughts(picture, ideal):
    """Whether enough leadings out of these, one behind another, always come to noughts."""
    for place, size in enumerate(picture.sizes):
        tables = [leading[place] for leading in ideal]
        rows = unit_rows(size)
        while len(rows) > 0:
            moved = moved_rows(picture.prime, tables, rows)
            if len(moved) == len(rows):
                return False
            rows = moved
    return True


def seal_of(picture, own):
    """A seal of a picture, of which own are the leadings to itself, or None."""
    place = narrowest(picture.sizes)
    if place is None:
        return None
    tables = [leading[place] for leading in own]
    ground = ground_rows(picture.prime, picture.sizes[place], tables)
    if ground is None:
        return None
    tables = [restricted(table, ground) for table in tables]
    ideal = led_to_nought(picture, own, tables)
    if not come_to_noughts(picture, ideal):
        return None
    degree = len(own) - len(ideal)
    # On the ground of a piece all tables are a field's, and one of any that span it makes it up.
    for leading, table in zip(own, tables):
        poly = least_polynomial(table)
        if len(poly) == degree + 1 and is_prime_polynomial(picture.prime, poly):
            return ideal, leading, poly
    return None


def seal(picture):
    """A triple (ideal, turn, poly) that shows that the picture is a piece, or None."""
    return seal_of(picture, leadings(picture, picture))


def closed_under(prime, own, ideal, kept):
    """Whether each of own, behind and ahead of each of the ideal, is a sum of the kept rows."""
    for leading in own:
        for other in ideal:
            for both in (behind(leading, other), behind(other, leading)):
                if pivot(cleared(prime, row_of(both), kept)) is not None:
                    return False
    return True


def is_seal(picture, thing):
    """Whether a thing is a seal of the picture."""
    if not isinstance(thing, tuple) or len(thing) != 3:
        return False
    ideal, turn, poly = thing
    if not isinstance(ideal, tuple) or not is_polynomial(picture.prime, poly):
        return False
    own = leadings(picture, picture)
    if len(poly) < 2 or len(poly) - 1 + len(ideal) != len(own):
        return False
    if not all([is_leading(picture, picture, leading) for leading in ideal + (turn,)]):
        return False
    rows = tuple([row_of(leading) for leading in ideal])
    if reduced_rows(picture.prime, rows) != rows or not come_to_noughts(picture, ideal):
        return False
    kept = {pivot(row): row for row in rows}
    nought = row_of(tuple([at_table(poly, table) for table in turn]))
    if pivot(cleared(picture.prime, nought, kept)) is not None:
        return False
    return is_prime_polynomial(picture.prime, poly) and closed_under(picture.prime, own, ideal, kept)


def is_piece(thing):
    """Whether a thing is a picture, and a piece."""
    return isinstance(thing, Picture) and seal(thing) is not None
