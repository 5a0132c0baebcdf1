"""8.1 to 8.3: bars of lines, reaches, reaches told."""

import unittest
from collections import Counter
from itertools import product

from mapwebs.forms import rows
from mapwebs.lines import bar_of, bars, bars_told, reach
from mapwebs.partings import alike, matched, parting
from mapwebs.pictures import Picture, based, beside
from mapwebs.seals import is_piece
from mapwebs.tables import Table, nought, plain
from mapwebs.webs import Web, line
from samples import PRIMES, Checks, Mixer, far_numbers
from test_partings import mixed_bases
from test_pictures import mixed_picture, more_odd_things

NO_LINES = [Web(2, ()), Web(3, ((0, 1),)), Web(2, ((0, 1), (0, 1))), Web(2, ((0, 1), (1, 0))), Web(1, ((0, 0),)),
            Web(3, ((1, 2), (0, 1))), Web(3, ((0, 2), (2, 1))), Web(3, ((0, 1), (0, 2))), Web(3, ((0, 1), (2, 0))),
            Web(4, ((0, 1), (1, 2), (1, 3))), Web(3, ((0, 1), (1, 1))), Web(3, ((0, 1), (1, 2), (0, 2))), Web(3, ((1, 0), (1, 0)))]


def stretches(many):
    return [(begin, end) for begin in range(many) for end in range(begin, many)]


def words(most):
    return ["".join(signs) for length in range(most + 1) for signs in product("<>", repeat=length)]


def drawn(mixer, web, prime, many):
    """A picture put together of so many drawn bars in other bases, and how often each is there."""
    chosen = [stretches(web.many)[mixer.below(len(stretches(web.many)))] for _ in range(many)]
    whole = beside(web, prime, [bar_of(web, prime, begin, end) for begin, end in chosen])
    return based(whole, mixed_bases(mixer, prime, whole.sizes)), Counter(chosen)


def by_the_words(picture, begin, end):
    """The reach as 8.2 tells it, all tuples of columns gone through."""
    prime, places = picture.prime, list(range(begin, end + 1))
    arrows = [k for k, (a, b) in enumerate(picture.web.arrows) if a in places and b in places]
    starts, length = {}, 0
    for place in places:
        starts[place] = length
        length += picture.sizes[place]

    def carried(k, column):
        return [sum(x * y for x, y in zip(row, column)) % prime for row in picture.tables[k].rows]

    lost = {(0,) * length}
    for k in arrows:
        a, b = picture.web.arrows[k]
        for at in range(picture.sizes[a]):
            unit = [int(at == i) for i in range(picture.sizes[a])]
            spread = [0] * length
            spread[starts[a] + at] += 1
            for i, worth in enumerate(carried(k, unit)):
                spread[starts[b] + i] -= worth
            lost = {tuple((x + n * y) % prime for x, y in zip(one, spread)) for one in lost for n in range(prime)}
    meetings = nought_ones = 0
    for whole in product(range(prime), repeat=length):
        parts = {place: whole[starts[place]:starts[place] + picture.sizes[place]] for place in places}
        if all(tuple(carried(k, parts[picture.web.arrows[k][0]])) == parts[picture.web.arrows[k][1]] for k in arrows):
            meetings += 1
            kept = whole[:picture.sizes[begin]] + (0,) * (length - picture.sizes[begin])
            nought_ones += kept in lost
    found = 0
    while nought_ones < meetings:
        nought_ones *= prime
        found += 1
    return found


class Bars(Checks, unittest.TestCase):

    def test_bar_of_each_stretch(self):
        for word in words(4) + ["><<>>", ">>>>>>>", "<><><><"]:
            web = line(word)
            for begin, end in stretches(web.many):
                prime = PRIMES[(begin + end) % 6]
                found = self.same_twice(bar_of, web, prime, begin, end)
                sizes = tuple(int(begin <= place <= end) for place in range(web.many))
                tables = [plain(prime, 1) if sizes[a] and sizes[b] else nought(prime, sizes[b], sizes[a])
                          for a, b in web.arrows]
                self.assertEqual(found, Picture(web, prime, sizes, tuple(tables)))
                self.assertEqual(bars(found), ((begin, end, 1),))
                if len(word) < 4:
                    self.assertIs(is_piece(found), True)

    def test_bars_of_drawn_ones(self):
        mixer = Mixer(130)
        for prime in PRIMES:
            for word in ("", ">", "<", "><", "<>", ">>", "<<>", "><><", ">>>>>", "<>><<>>"):
                for many in (0, 1, 4, 12):
                    picture, chosen = drawn(mixer, line(word), prime, many)
                    found = self.same_twice(bars, picture)
                    self.assertEqual(found, tuple(sorted((b, e, n) for (b, e), n in chosen.items())))
                    self.assertEqual([tuple(item.__class__ for item in bar) for bar in found], [(int,) * 3] * len(found))

    def test_they_are_the_pieces_of_a_parting(self):
        mixer = Mixer(131)
        for prime in (2, 5, 13):
            for word in words(3):
                picture = mixed_picture(mixer, line(word), prime, 3)
                told = [bar_of(picture.web, prime, begin, end) for begin, end, many in bars(picture) for _ in range(many)]
                self.assertEqual(Counter(piece.sizes for piece in parting(picture)[0]), Counter(bar.sizes for bar in told))
                if len(told) <= 12:
                    self.assertIsNotNone(matched(told, parting(picture)[0]))

    def test_rows_are_just_these_sizes(self):
        for word in words(3) + [">><<><>"]:
            web = line(word)
            self.assertEqual(rows(web), sorted(bar_of(web, 2, begin, end).sizes for begin, end in stretches(web.many)))

    def test_e07(self):
        picture = Picture(line(">"), 2, (2, 1), (Table(2, 2, ((1, 0),)),))
        self.assertEqual(bars(picture), ((0, 0, 1), (0, 1, 1)))
        self.assertEqual(reach(picture, 0, 1), 1)
        self.assertEqual(bars_told(2, {(0, 0): 1, (0, 1): 1, (1, 1): 0}), ("none", 1, 1))

    def test_no_line_ahead_of_all_else(self):
        for web in NO_LINES:
            picture = beside(web, 3, ())
            self.raises("NoLine", bars, picture)
            for thing in [0, 3, None, "x", (), -1]:
                self.raises("NoLine", bar_of, web, thing, thing, thing)
                self.raises("NoLine", bar_of, web, 3, 0, 0)
                self.raises("NoLine", reach, picture, thing, thing)
                self.raises("NoLine", reach, picture, 0, 0)

    def test_errors_of_bar_of(self):
        web = line("><")
        for thing in more_odd_things() + far_numbers() + [0, 1, 4, 14]:
            self.raises("NoPrime", bar_of, web, thing, 0, 0)
            self.raises("NoPrime", bar_of, web, thing, thing, thing)
        for thing in more_odd_things() + far_numbers() + [3, 8]:
            self.raises("NoStretch", bar_of, web, 3, thing, 2)
            self.raises("NoStretch", bar_of, web, 3, 0, thing)
            self.raises("NoStretch", bar_of, web, 3, thing, thing)
        for begin, end in [(1, 0), (2, 1), (2, 0)]:
            self.raises("NoStretch", bar_of, web, 3, begin, end)


class Reaches(Checks, unittest.TestCase):

    def test_by_the_words(self):
        mixer = Mixer(132)
        seen = Counter()
        for word in words(3):
            for prime, most in ((2, 2), (3, 1), (2, 3)):
                picture = mixed_picture(mixer, line(word), prime, most)
                if prime ** sum(picture.sizes) > 3000:
                    continue
                for begin, end in stretches(picture.web.many):
                    found = self.same_twice(reach, picture, begin, end)
                    self.assertEqual(found, by_the_words(picture, begin, end), (word, begin, end))
                    seen[end - begin, found] += 1
        self.assertGreater(seen[1, 1], 10)
        self.assertGreater(seen[2, 1], 5)

    def test_bars_that_reach_over_a_stretch(self):
        mixer = Mixer(133)
        for prime in PRIMES:
            for word in (">", "<>", "><>", "<<>>", ">>>>>>>", "<><>><<"):
                picture, chosen = drawn(mixer, line(word), prime, 8)
                for begin, end in stretches(picture.web.many):
                    expected = sum(n for (b, e), n in chosen.items() if b <= begin and end <= e)
                    self.assertEqual(reach(picture, begin, end), expected)
                for place in range(picture.web.many):
                    self.assertEqual(reach(picture, place, place), picture.sizes[place])

    def test_the_eighth_fact(self):
        mixer = Mixer(134)
        seen = Counter()
        for word in words(3)[1:]:
            for _ in range(6):
                sizes = tuple(1 + mixer.below(2) for _ in range(len(word) + 1))
                one, other = (mixed_picture(mixer, line(word), 2, sizes=sizes) for _ in range(2))
                same = all(reach(one, b, e) == reach(other, b, e) for b, e in stretches(len(sizes)))
                self.assertEqual(same, alike(one, other) is not None)
                seen[same] += 1
        self.assertGreater(min(seen[True], seen[False]), 15)

    def test_no_stretch(self):
        picture = Picture(line("><"), 3, (1, 1, 1), (plain(3, 1),) * 2)
        for thing in more_odd_things() + far_numbers() + [3, 8]:
            self.raises("NoStretch", reach, picture, thing, 2)
            self.raises("NoStretch", reach, picture, 0, thing)
            self.raises("NoStretch", reach, picture, thing, thing)
        for begin, end in [(1, 0), (2, 1), (2, 0)]:
            self.raises("NoStretch", reach, picture, begin, end)


class Told(Checks, unittest.TestCase):

    def expected(self, many, told):
        found = []
        for b, e in stretches(many):
            count = told[b, e]
            if b > 0:
                count -= told[b - 1, e]
            if e < many - 1:
                count -= told[b, e + 1]
            if b > 0 and e < many - 1:
                count += told[b - 1, e + 1]
            found.append((b, e, count))
        below = [(b, e) for b, e, count in found if count < 0]
        if below:
            return ("none",) + below[0]
        return ("bars", tuple(bar for bar in found if bar[2] > 0))

    def test_reaches_of_pictures(self):
        mixer = Mixer(135)
        for prime in (2, 3, 11):
            for word in words(2) + ["><>", ">>>><", "<><><><"]:
                picture, chosen = drawn(mixer, line(word), prime, 7)
                told = {(b, e): reach(picture, b, e) for b, e in stretches(picture.web.many)}
                self.assertEqual(self.same_twice(bars_told, picture.web.many, told), ("bars", bars(picture)))

    def test_all_small_ones(self):
        seen = Counter()
        for many, most in ((1, 5), (2, 3), (3, 2)):
            for worths in product(range(most + 1), repeat=len(stretches(many))):
                told = dict(zip(stretches(many), worths))
                found = bars_told(many, told)
                self.assertEqual(found, self.expected(many, told))
                seen[found[0]] += 1
                if found[0] == "bars":
                    for b, e in told:
                        self.assertEqual(told[b, e], sum(n for x, y, n in found[1] if x <= b and e <= y))
        self.assertGreater(min(seen["bars"], seen["none"]), 50)

    def test_any_numbers(self):
        mixer = Mixer(136)
        for many in range(1, 9):
            for most in (1, 2, 50, 10 ** 12):
                for _ in range(8):
                    keys = sorted(stretches(many), key=lambda stretch: (mixer.below(100), stretch))
                    told = {stretch: mixer.below(most) for stretch in keys}
                    self.assertEqual(self.same_twice(bars_told, many, told), self.expected(many, told))
        for many in range(1, 9):
            told = {(b, e): (b + 1) * (many - e) for b, e in stretches(many)}
            self.assertEqual(bars_told(many, told), ("bars", tuple((b, e, 1) for b, e in stretches(many))))
            self.assertEqual(bars_told(many, dict.fromkeys(stretches(many), 0)), ("bars", ()))
            self.assertEqual(bars_told(many, dict.fromkeys(stretches(many), 3)), ("bars", ((0, many - 1, 3),)))

    def test_the_least_stretch_below(self):
        told = dict.fromkeys(stretches(3), 1)
        told[0, 1] = told[2, 2] = 0
        self.assertEqual(bars_told(3, told), ("none", 0, 1))
        told[0, 1] = 1
        self.assertEqual(bars_told(3, told), ("none", 2, 2))
        told = {(0, 0): 0, (0, 1): 1, (0, 2): 0, (1, 1): 0, (1, 2): 5, (2, 2): 0}
        self.assertEqual(bars_told(3, told), ("none", 0, 0))

    def test_no_number_then_no_reaches(self):
        good = {(0, 0): 1, (0, 1): 1, (1, 1): 2}
        for thing in more_odd_things() + far_numbers() + [0, 9, 10]:
            self.raises("NoNumber", bars_told, thing, good)
            self.raises("NoNumber", bars_told, thing, thing)
        wrong = [{}, {(0, 0): 1, (0, 1): 1}, {(0, 0): 1, (0, 1): 1, (1, 1): 2, (1, 0): 0}, {(0, 0): 1, (0, 1): 1, (1, 0): 1},
                 {(0, 0): 1, (0, 1): 1, (1, 2): 1}, list(good.items()), tuple(good), [1, 1, 2], ((0, 0), 1),
                 {"0": 1, "1": 1, "2": 1}, {0: 1, 1: 1, 2: 1}, {(0, 0): 1, (0, 1): 1, (1, 1, 1): 1}, {(0, 0, 1): 1},
                 {(0, 0): 1, (0, 1): 1, None: 1}, {(0, 0): 1, (0, 1): 1, (1, (1,)): 1}]
        for stretch in good:
            for thing in [-1, True, False, None, "1", (1,), [1], {}, -(10 ** 11), good]:
                wrong.append({key: thing if key == stretch else worth for key, worth in good.items()})
        for thing in wrong + more_odd_things() + far_numbers():
            self.raises("NoReaches", bars_told, 2, thing)
        self.raises("NoReaches", bars_told, 1, good)
        self.raises("NoReaches", bars_told, 3, good)
        self.assertEqual(bars_told(2, good), ("bars", ((0, 1, 1), (1, 1, 1))))


if __name__ == "__main__":
    unittest.main()
