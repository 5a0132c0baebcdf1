"""Bar lists: their bars are paired, or a ban shows that they cannot be."""

from mapwebs.checks import is_ascending, is_integer, is_number
from mapwebs.errors import NoBars, NoNumber

MOST_BARS = 20
MOST_MOMENT = 1000
MOST_APART = 2000


def is_moment(thing):
    """Whether a thing is an integer at which a bar may begin or end."""
    return is_integer(thing) and -MOST_MOMENT <= thing <= MOST_MOMENT


def is_bar(thing):
    """Whether a thing is a pair of when a bar is born and when it is gone, or None."""
    if not isinstance(thing, tuple) or len(thing) != 2 or not is_moment(thing[0]):
        return False
    return thing[1] is None or (is_moment(thing[1]) and thing[0] < thing[1])


def demand_bars(thing):
    """A thing is a bar list, or NoBars is raised."""
    if not isinstance(thing, (list, tuple)) or len(thing) > MOST_BARS:
        raise NoBars()
    if not all([is_bar(bar) for bar in thing]):
        raise NoBars()


def demand_both(one, other, e):
    """Both are bar lists and e is a number up to the most, or NoBars or NoNumber is raised."""
    demand_bars(one)
    demand_bars(other)
    if not is_number(MOST_APART, e):
        raise NoNumber()


def fit(bar, other, e):
    """Whether two bars fit within e."""
    if abs(bar[0] - other[0]) > e:
        return False
    if bar[1] is None or other[1] is None:
        return bar[1] is None and other[1] is None
    return abs(bar[1] - other[1]) <= e


def is_short(bar, e):
    """Whether a bar may be in no pair: it is gone at most 2 e behind its born."""
    return bar[1] is not None and bar[1] - bar[0] <= 2 * e


def long_numbers(bars, e):
    """The list of the numbers of the bars that must be in a pair."""
    return [number for number, bar in enumerate(bars) if not is_short(bar, e)]


def fitting(bars, others, e):
    """For each bar the list of the numbers of the others that fit it."""
    return [[number for number, other in enumerate(others) if fit(bar, other, e)] for bar in bars]


def shift(came, taken, holders, number):
    """Gives a number to the bar it came from, which leaves its own one to where that came from."""
    while number is not None:
        bar = came[number]
        left = taken.get(bar)
        taken[bar] = number
        holders[number] = bar
        number = left


def place_bar(start, longs, fits, taken, holders):
    """Pairs one more bar: None, or the lot of long bars that are more than all that fit them."""
    # No number of the other side is ever left without its bar, so that side keeps what it has.
    came = {}
    asked = []
    waiting = [start]
    while len(waiting) > 0:
        bar = waiting.pop()
        asked.append(bar)
        for number in fits[bar]:
            if number not in came:
                came[number] = bar
                holder = holders.get(number)
                if holder in longs:
                    waiting.append(holder)
                else:
                    taken.pop(holder, None)
                    shift(came, taken, holders, number)
                    return None
    return tuple(sorted(asked))


def place_all(longs, fits, taken, holders):
    """Pairs all long bars of a side: None, or a lot of them that are more than all that fit them."""
    for start in longs:
        if start not in taken:
            lot = place_bar(start, longs, fits, taken, holders)
            if lot is not None:
                return lot
    return None


def paired_or_banned(one, other, e):
    """A pair of a pairing and None, or of None and a ban, of however many bars."""
    taken = {}
    holders = {}
    lot = place_all(long_numbers(one, e), fitting(one, other, e), taken, holders)
    if lot is not None:
        return None, (0, lot)
    lot = place_all(long_numbers(other, e), fitting(other, one, e), holders, taken)
    if lot is not None:
        return None, (1, lot)
    return tuple(sorted(taken.items())), None


def pairing(one, other, e):
    """A pairing within e of two bar lists, or None."""
    demand_both(one, other, e)
    return paired_or_banned(one, other, e)[0]


def ban(one, other, e):
    """A ban that shows that two bar lists have no pairing within e, or None."""
    demand_both(one, other, e)
    return paired_or_banned(one, other, e)[1]


def is_pairs(many, others, thing):
    """Whether a thing is an ascending tuple of pairs of so many and so many numbers, none twice."""
    if not isinstance(thing, tuple):
        return False
    if not all([isinstance(pair, tuple) and len(pair) == 2 for pair in thing]):
        return False
    # Where no first number stands twice, the pairs ascend as their first numbers do.
    if not is_ascending(many - 1, tuple([pair[0] for pair in thing])):
        return False
    if not all([is_number(others - 1, pair[1]) for pair in thing]):
        return False
    return len({pair[1]: True for pair in thing}) == len(thing)


def is_pairing(one, other, e, thing):
    """Whether a thing is a pairing within e of two bar lists."""
    demand_both(one, other, e)
    if not is_pairs(len(one), len(other), thing):
        return False
    if not all([fit(one[number], other[partner], e) for number, partner in thing]):
        return False
    numbers = [number for number, partner in thing]
    partners = [partner for number, partner in thing]
    if not all([number in numbers for number in long_numbers(one, e)]):
        return False
    return all([number in partners for number in long_numbers(other, e)])


def is_ban(one, other, e, thing):
    """Whether a thing is a ban of two bar lists within e."""
    demand_both(one, other, e)
    if not isinstance(thing, tuple) or len(thing) != 2 or not is_number(1, thing[0]):
        return False
    side, lot = thing
    bars, others = (one, other) if side == 0 else (other, one)
    if not is_ascending(len(bars) - 1, lot):
        return False
    if any([is_short(bars[number], e) for number in lot]):
        return False
    met = [bar for bar in others if any([fit(bars[number], bar, e) for number in lot])]
    return len(met) < len(lot)


def nearest(one, other):
    """The least number within which two bar lists have a pairing, or None."""
    demand_bars(one)
    demand_bars(other)
    least, enough = 0, MOST_APART
    if paired_or_banned(one, other, enough)[0] is None:
        return None
    # What fits, and what is short, within some number does so within all greater ones.
    while least < enough:
        middle = (least + enough) // 2
        if paired_or_banned(one, other, middle)[0] is None:
            least = middle + 1
        else:
            enough = middle
    return least
