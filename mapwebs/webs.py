"""Webs: places with arrows between them."""

from mapwebs.checks import is_number
from mapwebs.errors import BadWeb, NoTurn, NoWord

MOST_PLACES = 8
MOST_ARROWS = 12
MOST_SIGNS = 7


class Web:
    """Places, numbered from 0, and arrows, each a pair of its begin and its end."""

    def __init__(self, many, arrows):
        if not is_number(MOST_PLACES, many) or many == 0:
            raise BadWeb("many")
        if not isinstance(arrows, tuple) or len(arrows) > MOST_ARROWS:
            raise BadWeb("arrows")
        for at, arrow in enumerate(arrows):
            if not is_arrow(many, arrow):
                raise BadWeb(at)
        self.many = many
        self.arrows = arrows

    def __eq__(self, other):
        return isinstance(other, Web) and self.many == other.many and self.arrows == other.arrows


def is_arrow(many, thing):
    """Whether a thing is a pair of places, of which there are so many."""
    if not isinstance(thing, tuple) or len(thing) != 2:
        return False
    return all([is_number(many - 1, place) for place in thing])


def parts(web):
    """The ascending tuple of the lots of places that hang together by arrows."""
    leasts = list(range(web.many))
    for begin, end in web.arrows:
        kept = min(leasts[begin], leasts[end])
        gone = max(leasts[begin], leasts[end])
        leasts = [kept if least == gone else least for least in leasts]
    lots = []
    for least in range(web.many):
        if leasts[least] == least:
            lots.append(tuple([place for place in range(web.many) if leasts[place] == least]))
    return tuple(lots)


def is_end(web, thing):
    """Whether a thing is a place at which no arrow begins."""
    if not is_number(web.many - 1, thing):
        return False
    return all([begin != thing for begin, end in web.arrows])


def is_begin(web, thing):
    """Whether a thing is a place at which arrows begin and none ends."""
    if not is_number(web.many - 1, thing) or is_end(web, thing):
        return False
    return all([end != thing for begin, end in web.arrows])


def turned_web(web, place):
    """The web whose arrows at an END or BEGIN lead the other way."""
    if not is_end(web, place) and not is_begin(web, place):
        raise NoTurn()
    arrows = [(end, begin) if place in (begin, end) else (begin, end) for begin, end in web.arrows]
    return Web(web.many, tuple(arrows))


def line(word):
    """The web of places in a row whose arrows lead as the signs of the word point."""
    if not isinstance(word, str) or len(word) > MOST_SIGNS:
        raise NoWord()
    arrows = []
    for at, sign in enumerate(word):
        if sign == ">":
            arrows.append((at, at + 1))
        elif sign == "<":
            arrows.append((at + 1, at))
        else:
            raise NoWord()
    return Web(len(word) + 1, tuple(arrows))
