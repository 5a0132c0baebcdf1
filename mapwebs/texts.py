"""Texts: pictures written out in lines, and read back."""

from mapwebs.checks import is_column, is_prime
from mapwebs.errors import BadPicture, BadText
from mapwebs.pictures import Picture, is_sizes
from mapwebs.tables import Table
from mapwebs.webs import Web

MOST_FIGURES = 9
NO_WORTHS = "-"


def words_of(numbers):
    """The words of some numbers, with blanks between."""
    return " ".join([str(number) for number in numbers])


def row_text(row):
    """The line of a table's row."""
    if len(row) == 0:
        return NO_WORTHS
    return words_of(row)


def picture_text(picture):
    """The text of a picture."""
    lines = ["prime " + str(picture.prime), "places " + str(picture.web.many)]
    lines.extend(["arrow " + words_of(arrow) for arrow in picture.web.arrows])
    lines.append("sizes " + words_of(picture.sizes))
    for table in picture.tables:
        lines.append("table")
        lines.extend([row_text(row) for row in table.rows])
    return "".join([line + "\n" for line in lines])


def is_number_word(word):
    """Whether a word is a number without a sign and needless noughts, of not too many figures."""
    if not 1 <= len(word) <= MOST_FIGURES or not all([sign in "0123456789" for sign in word]):
        return False
    return word == "0" or word[0] != "0"


def numbers_of(words):
    """The tuple of the numbers that the words are, or None if one is none."""
    if not all([is_number_word(word) for word in words]):
        return None
    return tuple([int(word) for word in words])


def line_at(lines, at):
    """One of the lines, or BadText is raised if there are not so many."""
    if at >= len(lines):
        raise BadText(len(lines) + 1)
    return lines[at]


def numbers_at(lines, at, word):
    """The numbers behind the word in one of the lines, or BadText is raised."""
    words = line_at(lines, at).split(" ")
    numbers = numbers_of(words[1:])
    if words[0] != word or numbers is None:
        raise BadText(at + 1)
    return numbers


def many_numbers_at(lines, at, word, many):
    """The numbers behind the word in one of the lines, which are so many, or BadText is raised."""
    numbers = numbers_at(lines, at, word)
    if len(numbers) != many:
        raise BadText(at + 1)
    return numbers


def read_arrows(lines, at):
    """The tuple of the pairs of numbers in the lines of arrows that stand from here on."""
    found = []
    while at < len(lines) and lines[at].split(" ")[0] == "arrow":
        found.append(many_numbers_at(lines, at, "arrow", 2))
        at = at + 1
    return tuple(found)


def read_row(lines, at, wide):
    """The numbers of a table's row in one of the lines, or BadText is raised."""
    text = line_at(lines, at)
    if wide == 0 and text == NO_WORTHS:
        return ()
    numbers = numbers_of(text.split(" "))
    if numbers is None or len(numbers) != wide:
        raise BadText(at + 1)
    return numbers


def size_of(sizes, place):
    """The number in sizes at a place, 0 where there is none."""
    if place < len(sizes):
        return sizes[place]
    return 0


def read_rows(lines, at, wide, high):
    """The tuple of so many rows, so wide, of a table whose own line stands here."""
    if line_at(lines, at) != "table":
        raise BadText(at + 1)
    return tuple([read_row(lines, at + 1 + number, wide) for number in range(high)])


def read_forms(lines):
    """What the lines tell: prime, places, arrows, sizes, the rows of each table, and how many lines that is."""
    prime = many_numbers_at(lines, 0, "prime", 1)[0]
    places = many_numbers_at(lines, 1, "places", 1)[0]
    arrows = read_arrows(lines, 2)
    at = 2 + len(arrows)
    sizes = numbers_at(lines, at, "sizes")
    if len(sizes) == 0:
        raise BadText(at + 1)
    at = at + 1
    found = []
    for begin, end in arrows:
        found.append(read_rows(lines, at, size_of(sizes, begin), size_of(sizes, end)))
        at = at + 1 + len(found[-1])
    return prime, places, arrows, sizes, found, at


def picture_read(web, prime, sizes, found):
    """The picture of these numbers and rows, or BadPicture is raised."""
    if not is_prime(prime):
        raise BadPicture("prime")
    if not is_sizes(web, sizes):
        raise BadPicture("sizes")
    for at, rows in enumerate(found):
        wide = sizes[web.arrows[at][0]]
        if not all([is_column(prime, wide, row) for row in rows]):
            raise BadPicture(at)
    tables = [Table(prime, sizes[arrow[0]], rows) for arrow, rows in zip(web.arrows, found)]
    return Picture(web, prime, sizes, tuple(tables))


def read_picture(text):
    """The picture whose text this is."""
    if not isinstance(text, str):
        raise BadText(0)
    lines = text.split("\n")
    rest = lines.pop()
    prime, places, arrows, sizes, found, at = read_forms(lines)
    if at < len(lines) or rest != "":
        raise BadText(at + 1)
    return picture_read(Web(places, arrows), prime, sizes, found)
