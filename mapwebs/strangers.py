"""Strangers: tables that are known only by what is told of them, column by column."""

from mapwebs.checks import is_column, is_number, is_prime
from mapwebs.errors import BadAnswer, NoPrime, NoSizes, TooMany
from mapwebs.pictures import Picture, is_sizes
from mapwebs.tables import Table, turned_about, unit_rows

MOST_COLUMNS = 5000


def all_columns(prime, length):
    """The ascending list of all columns of so many worths."""
    found = [()]
    for _ in range(length):
        found = [column + (worth,) for column in found for worth in range(prime)]
    return found


def many_columns(prime, length):
    """How many columns of so many worths there are."""
    many = 1
    for _ in range(length):
        many = many * prime
    return many


def demand_few(web, prime, sizes):
    """There are columns of this prime at places of these sizes, not too many, or an error is raised."""
    if not is_prime(prime):
        raise NoPrime()
    if not is_sizes(web, sizes):
        raise NoSizes()
    if sum([many_columns(prime, sizes[begin]) for begin, end in web.arrows]) > MOST_COLUMNS:
        raise TooMany(MOST_COLUMNS)


def asked(web, prime, sizes, asker, arrow, column):
    """What an asker tells, a column at the end of the arrow, or BadAnswer is raised."""
    answer = asker(arrow, column)
    if not is_column(prime, sizes[web.arrows[arrow][1]], answer):
        raise BadAnswer(arrow, column)
    return answer


def all_asked(web, prime, sizes, asker):
    """For each arrow the dict from all columns, ascending, to what the asker tells of them."""
    demand_few(web, prime, sizes)
    found = []
    for arrow, ends in enumerate(web.arrows):
        columns = all_columns(prime, sizes[ends[0]])
        found.append({column: asked(web, prime, sizes, asker, arrow, column) for column in columns})
    return found


def summed(prime, one, other):
    """The sum of two columns, item by item."""
    return tuple([(worth + more) % prime for worth, more in zip(one, other)])


def without_one(column):
    """A column less 1 at its first worth that is not 0, and the column of this 1, or noughts twice."""
    for at, worth in enumerate(column):
        if worth > 0:
            return column[:at] + (worth - 1,) + column[at + 1:], unit_rows(len(column))[at]
    return column, column


def first_refuted(prime, told):
    """A triple of an arrow and two columns that are not led as their sum is, or None."""
    # A table that leads so each column and what is 1 less leads as a linear one throughout.
    for arrow, answers in enumerate(told):
        for column, answer in answers.items():
            one, other = without_one(column)
            if summed(prime, answers[one], answers[other]) != answer:
                return arrow, one, other
    return None


def refuted(web, prime, sizes, asker):
    """A triple that shows that no picture has tables that lead as the asker tells, or None."""
    return first_refuted(prime, all_asked(web, prime, sizes, asker))


def is_triple(web, prime, sizes, thing):
    """Whether a thing is a triple of the number of an arrow and two columns at its begin."""
    if not isinstance(thing, tuple) or len(thing) != 3 or not is_number(len(web.arrows) - 1, thing[0]):
        return False
    size = sizes[web.arrows[thing[0]][0]]
    return is_column(prime, size, thing[1]) and is_column(prime, size, thing[2])


def is_refuted(web, prime, sizes, asker, thing):
    """Whether a thing is a triple that shows that no picture has such tables."""
    demand_few(web, prime, sizes)
    if not is_triple(web, prime, sizes, thing):
        return False
    arrow, one, other = thing
    first = asked(web, prime, sizes, asker, arrow, one)
    second = asked(web, prime, sizes, asker, arrow, other)
    both = asked(web, prime, sizes, asker, arrow, summed(prime, one, other))
    return summed(prime, first, second) != both


def picture_asked(web, prime, sizes, asker):
    """The picture with tables that lead as the asker tells, or None if it is refuted."""
    told = all_asked(web, prime, sizes, asker)
    if first_refuted(prime, told) is not None:
        return None
    tables = []
    for ends, answers in zip(web.arrows, told):
        begin, end = ends
        columns = tuple([answers[column] for column in unit_rows(sizes[begin])])
        tables.append(turned_about(Table(prime, sizes[end], columns)))
    return Picture(web, prime, sizes, tuple(tables))
