"""10.2: goings there and back between pictures of lines."""

import unittest

from mapwebs.barlists import is_pairing, pairing
from mapwebs.leadings import leadings
from mapwebs.lines import bar_of, bars
from mapwebs.nearness import is_near, near
from mapwebs.pictures import Picture, based, beside
from mapwebs.tables import Table, nought, plain, times, undone
from mapwebs.webs import Web, line
from samples import PRIMES, Checks, Mixer, far_numbers, tables
from test_lines import NO_LINES, drawn
from test_partings import mixed_bases
from test_pictures import mixed_picture, more_odd_things

OTHER_LINES = [line("<"), line("><"), line("<>"), line("<<"), line(">>>><>>")]


def onward(many):
    return line(">" * (many - 1))


def taken(picture):
    """The bars as the ELEVENTH FACT takes them, each as often as it is there."""
    last = picture.web.many - 1
    return [(begin, None if end == last else end + 1) for begin, end, many in bars(picture) for _ in range(many)]


def ways_of(picture):
    """The table from each place to each later one, walked along column by column."""
    found = {}
    for start, size in enumerate(picture.sizes):
        units = [tuple(int(k == at) for k in range(size)) for at in range(size)]
        found[start, start] = units
        for end in range(start + 1, picture.web.many):
            table = picture.tables[end - 1]
            units = [tuple(sum(x * y for x, y in zip(row, column)) % picture.prime for row in table.rows)
                     for column in units]
            found[start, end] = units
    return found


def led_columns(prime, table, many):
    return [tuple(sum(x * y for x, y in zip(row, column)) % prime for row in table.rows) for column in many]


class Words:
    """What 10.2 says of a meeting both ways, word by word: column by column."""

    def __init__(self, one, other, e):
        self.one, self.other, self.e, self.prime = one, other, e, one.prime
        self.last = one.web.many - 1
        self.ways = [ways_of(one), ways_of(other)]

    def way(self, side, i, j):
        return self.ways[side][min(i, self.last), min(j, self.last)]

    def is_going(self, side, thing):
        begin, end = (self.one, self.other)[side], (self.other, self.one)[side]
        if not isinstance(thing, tuple) or len(thing) != begin.web.many:
            return False
        for t, table in enumerate(thing):
            goal = min(t + self.e, self.last)
            if not isinstance(table, Table) or table.prime != self.prime:
                return False
            if (table.wide, table.high) != (begin.sizes[t], end.sizes[goal]):
                return False
        for t in range(self.last):
            first = led_columns(self.prime, thing[t + 1], self.way(side, t, t + 1))
            goal = self.way(1 - side, t + self.e, t + 1 + self.e)
            size = begin.sizes[t]
            units = [tuple(int(k == at) for k in range(size)) for at in range(size)]
            high = end.sizes[min(t + 1 + self.e, self.last)]
            second = [tuple(sum(column[k] * goal[k][row] for k in range(len(goal))) % self.prime for row in range(high))
                      for column in led_columns(self.prime, thing[t], units)]
            if first != second:
                return False
        return True

    def is_near(self, thing):
        if not isinstance(thing, tuple) or len(thing) != 2:
            return False
        if not self.is_going(0, thing[0]) or not self.is_going(1, thing[1]):
            return False
        for side in (0, 1):
            for t in range(self.last + 1):
                size = (self.one, self.other)[side].sizes[t]
                units = [tuple(int(k == at) for k in range(size)) for at in range(size)]
                there = led_columns(self.prime, thing[side][t], units)
                again = led_columns(self.prime, thing[1 - side][min(t + self.e, self.last)], there)
                if again != self.way(side, t, t + 2 * self.e):
                    return False
        return True


def moved_bars(mixer, chosen, many, e):
    """Bars that fit these within e, and some short ones."""
    found = []
    for begin, end in chosen:
        if end - begin + 1 <= 2 * e and end < many - 1 and mixer.below(3) == 0:
            continue
        begin = min(max(0, begin + mixer.below(2 * e + 1) - e), many - 1)
        if end < many - 1:
            end = max(begin, min(many - 2, end + mixer.below(2 * e + 1) - e))
            if end == many - 1:
                continue
        found.append((begin, end))
    if many > 1 and e > 0:
        begin = mixer.below(many - 1)
        found.append((begin, begin))
    return found


def laid(mixer, prime, many, chosen):
    whole = beside(onward(many), prime, [bar_of(onward(many), prime, begin, end) for begin, end in chosen])
    return based(whole, mixed_bases(mixer, prime, whole.sizes))


def built(prime, many, chosen, others, pairs, e, bases, other_bases):
    """A meeting both ways of a pairing of bars, each one's columns being those of its bases."""
    last = many - 1

    def half(begin_bars, end_bars, goings, begin_bases, end_bases):
        found = []
        for t in range(many):
            goal = min(t + e, last)
            here = [k for k, (b, d) in enumerate(begin_bars) if b <= t <= d]
            there = [k for k, (b, d) in enumerate(end_bars) if b <= goal <= d]
            table = Table(prime, len(here), tuple(tuple(int((i, j) in goings) for i in here) for j in there))
            found.append(times(times(end_bases[goal], table), undone(begin_bases[t])))
        return tuple(found)

    return (half(chosen, others, pairs, bases, other_bases),
            half(others, chosen, [(j, i) for i, j in pairs], other_bases, bases))


def some_meetings():
    """Two pictures, e and a meeting both ways that is built of a pairing of stretches in other bases."""
    mixer = Mixer(210)
    for many in range(1, 9):
        for e in range(9):
            prime = PRIMES[(many + e) % 6]
            stretches = [(b, d) for b in range(many) for d in range(b, many)]
            chosen = [stretches[mixer.below(len(stretches))] for _ in range(1 + mixer.below(5))]
            others = moved_bars(mixer, chosen, many, e)
            first = [(b, None if d == many - 1 else d + 1) for b, d in chosen]
            second = [(b, None if d == many - 1 else d + 1) for b, d in others]
            pairs = pairing(first, second, e)
            if pairs is None:
                others, second, pairs = chosen, first, tuple((k, k) for k in range(len(chosen)))
            pictures = []
            for bars_there in (chosen, others):
                whole = beside(onward(many), prime, [bar_of(onward(many), prime, b, d) for b, d in bars_there])
                pictures.append((whole, mixed_bases(mixer, prime, whole.sizes)))
            one, other = [based(whole, bases) for whole, bases in pictures]
            yield one, other, e, built(prime, many, chosen, others, pairs, e, pictures[0][1], pictures[1][1])


def spoilt(table):
    """The table with one worth otherwise."""
    rows = [list(row) for row in table.rows]
    rows[-1][-1] = (rows[-1][-1] + 1) % table.prime
    return Table(table.prime, table.wide, tuple(tuple(row) for row in rows))


class Meetings(Checks, unittest.TestCase):

    def test_built_of_pairings(self):
        for one, other, e, meeting in some_meetings():
            self.assertTrue(Words(one, other, e).is_near(meeting))
            self.assertIs(is_near(one, other, e, meeting), True)
            self.assertIs(is_near(other, one, e, meeting[::-1]), True)
            found = self.same_twice(near, one, other, e)
            self.assertTrue(Words(one, other, e).is_near(found))
            self.assertIs(is_near(one, other, e, found), True)

    def test_spoilt_ones_as_the_words_judge_them(self):
        told = []
        for one, other, e, meeting in some_meetings():
            words = Words(one, other, e)
            for side in (0, 1):
                for t, table in enumerate(meeting[side]):
                    wrong = [nought(table.prime, table.high, table.wide)]
                    if table.wide and table.high:
                        wrong.append(spoilt(table))
                    for other_table in wrong:
                        going = meeting[side][:t] + (other_table,) + meeting[side][t + 1:]
                        thing = (going, meeting[1]) if side == 0 else (meeting[0], going)
                        self.assertIs(is_near(one, other, e, thing), words.is_near(thing))
                        told.append(words.is_near(thing))
            if one != other:
                self.assertIs(is_near(one, other, e, meeting[::-1]), words.is_near(meeting[::-1]))
                told.append(words.is_near(meeting[::-1]))
        self.assertGreater(told.count(False), 300)
        self.assertGreater(told.count(True), 10)

    def test_wrong_forms(self):
        for one, other, e, meeting in some_meetings():
            prime = one.prime
            another = 3 if prime == 2 else 2
            for side in (0, 1):
                going = meeting[side]
                for t, table in enumerate(going):
                    wider = Table(prime, table.wide + 1, tuple(row + (0,) for row in table.rows))
                    higher = Table(prime, table.wide, table.rows + ((0,) * table.wide,))
                    strange = nought(another, table.high, table.wide)
                    for thing in (wider, higher, strange, table.rows, None, (table,), True):
                        spoilt_one = going[:t] + (thing,) + going[t + 1:]
                        whole = (spoilt_one, meeting[1]) if side == 0 else (meeting[0], spoilt_one)
                        self.assertIs(is_near(one, other, e, whole), False)
                for thing in (going[:-1], going[1:] if len(going) > 1 else (), going + going[-1:], list(going), None,
                              {k: table for k, table in enumerate(going)}, going[0]):
                    whole = (thing, meeting[1]) if side == 0 else (meeting[0], thing)
                    self.assertIs(is_near(one, other, e, whole), False)
            for thing in (list(meeting), meeting + meeting[:1], meeting[:1], (), meeting + ((),), meeting[0],
                          {0: meeting[0], 1: meeting[1]}):
                self.assertIs(is_near(one, other, e, thing), False)

    def test_odd_things(self):
        one, other, e, meeting = list(some_meetings())[40]
        for thing in more_odd_things() + far_numbers():
            self.assertIs(is_near(one, other, e, thing), False)
            self.assertIs(is_near(one, other, e, (thing, meeting[1])), False)
            self.assertIs(is_near(one, other, e, (meeting[0], thing)), False)
            self.assertIs(is_near(one, other, e, (thing, thing)), False)

    def test_all_goings_of_small_pictures(self):
        mixer = Mixer(211)
        for prime, many, most in ((2, 2, 1), (3, 2, 1), (2, 3, 1)):
            for _ in range(12):
                one, other = [mixed_picture(mixer, onward(many), prime, most) for _ in range(2)]
                for e in range(3):
                    words = Words(one, other, e)
                    halves = []
                    for begin, end in ((one, other), (other, one)):
                        goings = [()]
                        for t in range(many):
                            high, wide = end.sizes[min(t + e, many - 1)], begin.sizes[t]
                            goings = [going + (table,) for going in goings for table in tables(prime, high, wide)]
                        halves.append(goings)
                    right = [(f, g) for f in halves[0] for g in halves[1] if words.is_near((f, g))]
                    for f in halves[0]:
                        for g in halves[1]:
                            self.assertIs(is_near(one, other, e, (f, g)), (f, g) in right)
                    found = near(one, other, e)
                    self.assertEqual(found is None, right == [])
                    self.assertTrue(found is None or found in right)

    def test_within_nought_they_are_alike(self):
        mixer = Mixer(212)
        for prime in PRIMES:
            one, chosen = drawn(mixer, onward(4), prime, 5)
            other = based(one, mixed_bases(mixer, prime, one.sizes))
            found = near(one, other, 0)
            self.assertTrue(Words(one, other, 0).is_near(found))
            for table, back in zip(*found):
                self.assertEqual(undone(table), back)
            self.assertGreater(len(leadings(one, other)), 0)
            self.assertIsNone(near(one, beside(onward(4), prime, [one, bar_of(onward(4), prime, 1, 2)]), 0))


class TheFact(Checks, unittest.TestCase):

    def check(self, one, other, e):
        first, second = taken(one), taken(other)
        found = near(one, other, e)
        if len(first) <= 20 and len(second) <= 20:
            self.assertEqual(found is None, pairing(first, second, e) is None)
        if found is not None:
            self.assertIsInstance(found, tuple)
            self.assertTrue(Words(one, other, e).is_near(found))
            self.assertIs(is_near(one, other, e, found), True)
        return found is not None

    def test_drawn_pictures(self):
        mixer, told = Mixer(213), []
        for number in range(260):
            web = onward(1 + mixer.below(8))
            prime = PRIMES[number % 6]
            one, other = [drawn(mixer, web, prime, mixer.below(6))[0] for _ in range(2)]
            told.append(self.check(one, other, number % 9 if number % 2 else mixer.below(3)))
        self.assertGreater(told.count(True), 30)
        self.assertGreater(told.count(False), 100)

    def test_drawn_tables(self):
        mixer = Mixer(214)
        for number in range(120):
            web = onward(1 + mixer.below(4))
            one, other = [mixed_picture(mixer, web, PRIMES[number % 6], 4) for _ in range(2)]
            for e in (0, 1, 2, 8):
                self.check(one, other, e)
                self.check(one, one, e)

    def test_moved_bars(self):
        mixer = Mixer(215)
        for number in range(200):
            many, e = 2 + mixer.below(7), 1 + mixer.below(4)
            prime = PRIMES[number % 6]
            stretches = [(b, d) for b in range(many) for d in range(b, many)]
            chosen = [stretches[mixer.below(len(stretches))] for _ in range(1 + mixer.below(6))]
            one, other = laid(mixer, prime, many, chosen), laid(mixer, prime, many, moved_bars(mixer, chosen, many, e))
            for within in range(6):
                self.check(one, other, within)

    def test_more_bars_than_a_bar_list_may_have(self):
        mixer = Mixer(216)
        web = onward(8)
        none = Picture(web, 3, (6,) * 8, (nought(3, 6, 6),) * 7)
        plains = Picture(web, 3, (6,) * 8, (plain(3, 6),) * 7)
        found = near(none, none, 0)
        self.assertTrue(Words(none, none, 0).is_near(found))
        # All bars but those at the last place are gone at once; six of these come sooner there.
        self.assertIsNotNone(near(none, plains, 7))
        self.assertIsNone(near(none, plains, 6))
        many = beside(web, 3, [drawn(mixer, web, 3, 12)[0] for _ in range(3)])
        self.assertGreater(len(taken(many)), 20)
        other = based(many, mixed_bases(mixer, 3, many.sizes))
        for e in (0, 1, 8):
            self.assertTrue(Words(many, other, e).is_near(near(many, other, e)))

    def test_sizes_beyond_the_bounds(self):
        mixer = Mixer(217)
        wide = beside(onward(2), 2, [mixed_picture(mixer, onward(2), 2, 6) for _ in range(5)])
        self.assertGreater(max(wide.sizes), 12)
        other = based(wide, mixed_bases(mixer, 2, wide.sizes))
        found = near(wide, other, 1)
        self.assertTrue(Words(wide, other, 1).is_near(found))
        self.assertIs(is_near(wide, other, 1, found), True)

    def test_the_last_place_is_all_later_ones(self):
        web = onward(3)
        # A bar up to the last place has no gone: it fits no bar that is gone, however great e.
        for e in range(9):
            self.assertIsNone(near(bar_of(web, 2, 0, 2), bar_of(web, 2, 0, 1), e))
            self.assertEqual(near(bar_of(web, 2, 2, 2), bar_of(web, 2, 0, 2), e) is not None, e >= 2)
            self.assertEqual(near(bar_of(web, 2, 0, 1), beside(web, 2, ()), e) is not None, e >= 1)
            self.assertIsNone(near(bar_of(web, 2, 2, 2), beside(web, 2, ()), e))
            self.assertIsNotNone(near(beside(web, 2, ()), beside(web, 2, ()), e))
        place = Web(1, ())
        for size in range(3):
            for other in range(3):
                one, two = Picture(place, 5, (size,), ()), Picture(place, 5, (other,), ())
                self.assertEqual(near(one, two, 3) is not None, size == other)

    def test_bars_and_pairings_of_the_answer(self):
        one = beside(onward(4), 7, [bar_of(onward(4), 7, 0, 2), bar_of(onward(4), 7, 1, 3)])
        other = beside(onward(4), 7, [bar_of(onward(4), 7, 1, 2), bar_of(onward(4), 7, 0, 3)])
        self.assertEqual(taken(one), [(0, 3), (1, None)])
        self.assertIs(is_pairing(taken(one), taken(other), 1, ((0, 1), (1, 0))), True)
        self.assertIsNotNone(near(one, other, 1))
        self.assertIsNone(near(one, other, 0))


class Errors(Checks, unittest.TestCase):

    def two(self):
        return [near, lambda one, other, e: is_near(one, other, e, None)]

    def pictures(self, webs, prime=2):
        return [beside(web, prime, ()) for web in webs]

    def test_no_line(self):
        right = beside(onward(3), 2, ())
        for call in self.two():
            for wrong in self.pictures(NO_LINES + OTHER_LINES):
                for e in (0, 9, None):
                    self.raises("NoLine", call, wrong, right, e)
                    self.raises("NoLine", call, right, wrong, e)
                    self.raises("NoLine", call, wrong, wrong, e)
                self.raises("NoLine", call, wrong, beside(onward(2), 3, ()), 0)
                self.raises("NoLine", call, beside(onward(2), 3, ()), wrong, 0)

    def test_other_web_then_no_number(self):
        for call in self.two():
            for one, other in ((beside(onward(2), 2, ()), beside(onward(3), 2, ())),
                               (beside(onward(2), 2, ()), beside(onward(2), 3, ()))):
                for e in (0, 8, 9, None):
                    self.raises("OtherWeb", call, one, other, e)
                    self.raises("OtherWeb", call, other, one, e)
            for thing in more_odd_things() + far_numbers() + [9, 10]:
                self.raises("NoNumber", call, beside(onward(2), 2, ()), bar_of(onward(2), 2, 0, 1), thing)
            for many in range(1, 9):
                for e in range(9):
                    call(beside(onward(many), 2, ()), beside(onward(many), 2, ()), e)

    def test_judged_last(self):
        one, other = beside(onward(2), 2, ()), beside(onward(2), 3, ())
        for thing in more_odd_things():
            self.raises("NoLine", is_near, beside(line("<"), 2, ()), one, 0, thing)
            self.raises("OtherWeb", is_near, one, other, 0, thing)
            self.raises("NoNumber", is_near, one, one, 9, thing)


if __name__ == "__main__":
    unittest.main()
