"""Rows of worths: the reduced ones that span the same, and those led to noughts."""


def inverse(prime, worth):
    """The worth that makes 1 with this one, which is not 0."""
    for other in range(1, prime):
        if worth * other % prime == 1:
            return other
    return None


def pivot(row):
    """The place of the first worth that is not 0, or None."""
    for at, worth in enumerate(row):
        if worth != 0:
            return at
    return None


def scaled_row(prime, row, number):
    """Each worth of a row times the number."""
    return [worth * number % prime for worth in row]


def less(prime, row, number, other):
    """A row less another one that is taken so many times."""
    return [(worth - number * taken) % prime for worth, taken in zip(row, other)]


def cleared(prime, row, kept):
    """The row less such kept ones that it is 0 at their pivots, the keys."""
    for at, other in kept.items():
        if row[at] != 0:
            row = less(prime, row, row[at], other)
    return row


def keep(prime, row, kept):
    """Takes a row among the kept ones, which stay reduced: its pivot then, None if they span it."""
    rest = cleared(prime, row, kept)
    at = pivot(rest)
    if at is not None:
        rest = scaled_row(prime, rest, inverse(prime, rest[at]))
        for elder in list(kept):
            if kept[elder][at] != 0:
                kept[elder] = less(prime, kept[elder], kept[elder][at], rest)
        kept[at] = rest
    return at


def kept_rows(prime, rows):
    """A dict from pivots to the rows of the reduced table that span what these rows span."""
    kept = {}
    for row in rows:
        keep(prime, row, kept)
    return kept


def reduced_rows(prime, rows):
    """The tuple of the rows of the reduced table that span what these rows span."""
    kept = kept_rows(prime, rows)
    return tuple([tuple(kept[at]) for at in sorted(kept)])


def kernel_rows(prime, wide, rows):
    """The tuple of the rows of the reduced table that span the columns led to noughts."""
    # Cleared from behind, each solution begins at its own free place: so they are reduced.
    kept = kept_rows(prime, [row[::-1] for row in rows])
    last = wide - 1
    found = []
    for free in range(wide):
        if last - free not in kept:
            column = [0] * wide
            column[free] = 1
            for at, row in kept.items():
                column[last - at] = -row[last - free] % prime
            found.append(tuple(column))
    return tuple(found)


def sum_of_rows(prime, length, worths, rows):
    """The linear sum of rows of this length, each times its worth."""
    total = [0] * length
    for worth, row in zip(worths, rows):
        if worth != 0:
            total = less(prime, total, -worth, row)
    return tuple(total)
