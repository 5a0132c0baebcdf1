"""5.1 and 5.2, and rows of 5.3: forms, kinds, endless webs."""

import unittest
from fractions import Fraction
from itertools import permutations, product

from mapwebs.forms import endless, euler, form, kinds, rows
from mapwebs.pictures import Picture
from mapwebs.webs import Web, line, parts
from samples import Checks, Mixer, far_numbers, odd_things
from test_webs import small_webs


def more_odd_things():
    return odd_things() + [Web(2, ((0, 1),)), Picture(Web(1, ()), 2, (0,), ())]


def arms(*lengths):
    """A star: arms of so many places around place 0, arrows leading inwards."""
    arrows, many = [], 1
    for length in lengths:
        inner = 0
        for _ in range(length):
            arrows.append((many, inner))
            inner, many = many, many + 1
    return Web(many, tuple(arrows))


def mixed_web(mixer, web):
    """The web with its places renamed, its arrows turned and put in another order at will."""
    names = sorted(range(web.many), key=lambda place: (mixer.below(1000), place))
    arrows = [(names[a], names[b]) if mixer.below(2) else (names[b], names[a]) for a, b in web.arrows]
    arrows = sorted(arrows, key=lambda arrow: (mixer.below(1000), arrow))
    return Web(web.many, tuple(arrows))


def every_way(web):
    """The web with its arrows led either way."""
    for turned in product((False, True), repeat=len(web.arrows)):
        yield Web(web.many, tuple((b, a) if flag else (a, b) for (a, b), flag in zip(web.arrows, turned)))


def random_trees(mixer, rounds):
    for _ in range(rounds):
        many = 1 + mixer.below(8)
        yield mixed_web(mixer, Web(many, tuple((k, mixer.below(k)) for k in range(1, many))))


def random_webs(mixer, rounds):
    for _ in range(rounds):
        many = 1 + mixer.below(8)
        length = mixer.below(13)
        yield Web(many, tuple((mixer.below(many), mixer.below(many)) for _ in range(length)))


def doubled_form(web, places):
    """The table of the form's sums of two rows, twice over."""
    place = {name: at for at, name in enumerate(places)}
    table = [[2 * (i == j) for j in range(len(places))] for i in range(len(places))]
    for a, b in web.arrows:
        if a in place and b in place:
            table[place[a]][place[b]] -= 1
            table[place[b]][place[a]] -= 1
    return table


def leading_minors(table):
    """The determinants of the first k rows and columns, by whole division as far as they are not 0."""
    rows_left = [[Fraction(item) for item in row] for row in table]
    found, total = [], Fraction(1)
    for at in range(len(rows_left)):
        total *= rows_left[at][at]
        found.append(total)
        if total == 0:
            return found
        for below in range(at + 1, len(rows_left)):
            ratio = rows_left[below][at] / rows_left[at][at]
            rows_left[below] = [x - ratio * y for x, y in zip(rows_left[below], rows_left[at])]
    return found


def expected_kind(web, places):
    """By the form alone: it is above 0 but for noughts just for A, D, E, told by its determinant."""
    minors = leading_minors(doubled_form(web, places))
    if any(minor <= 0 for minor in minors):
        return None
    many = len(places)
    if minors[-1] == many + 1:
        return ("A", many)
    if minors[-1] == 4:
        return ("D", many)
    assert minors[-1] == 9 - many and many in (6, 7, 8)
    return ("E", many)


class Sums(Checks, unittest.TestCase):

    def webs(self):
        mixer = Mixer(70)
        return list(random_webs(mixer, 60)) + [Web(1, ()), Web(1, ((0, 0),) * 12), line("><<"), Web(2, ((0, 1),) * 2)]

    def test_form_and_euler_by_their_words(self):
        mixer = Mixer(71)
        for web in self.webs():
            for most in (1, 4, 1000):
                one = tuple(mixer.below(2 * most + 1) - most for _ in range(web.many))
                other = tuple(mixer.below(2 * most + 1) - most for _ in range(web.many))
                total = 0
                for item in one:
                    total += item * item
                for a, b in web.arrows:
                    total -= one[a] * one[b]
                self.assertEqual(self.same_twice(form, web, one), total)
                total = 0
                for k in range(web.many):
                    total += one[k] * other[k]
                for a, b in web.arrows:
                    total -= one[a] * other[b]
                self.assertEqual(self.same_twice(euler, web, one, other), total)

    def test_which_way_arrows_lead(self):
        self.assertEqual(euler(line(">"), (1, 0), (0, 1)), -1)
        self.assertEqual(euler(line(">"), (0, 1), (1, 0)), 0)
        self.assertEqual(euler(line("<"), (1, 0), (0, 1)), 0)
        self.assertEqual(form(Web(1, ((0, 0),)), (3,)), 0)
        self.assertEqual(form(Web(1, ((0, 0), (0, 0))), (-3,)), -9)

    def test_edges(self):
        web = line("><>")
        for row in [(0, 0, 0, 0), (1000, -1000, 1000, -1000), (-1000,) * 4]:
            self.assertEqual(form(web, row), sum(x * x for x in row) - sum(row[a] * row[b] for a, b in web.arrows))
            self.assertEqual(euler(web, row, row), form(web, row))

    def test_no_row(self):
        web = line("><")
        good = (1, -2, 3)
        wrong = [(1, 2), (1, 2, 3, 4), [1, 2, 3], (1, 2, 1001), (-1001, 2, 3), (1, True, 2), (False, 0, 0), (1, 2, None),
                 (1, "2", 3), "123", b"123", {0: 1, 1: 2, 2: 3}, range(3), (1, (2,), 3), (1, 2, [3]), (1, 2, 10 ** 11)]
        for thing in wrong + more_odd_things() + far_numbers():
            self.raises("NoRow", form, web, thing)
            self.raises("NoRow", euler, web, thing, good)
            self.raises("NoRow", euler, web, good, thing)
            self.raises("NoRow", euler, web, thing, thing)


class Kinds(Checks, unittest.TestCase):

    def test_shapes_either_way_and_in_any_order(self):
        mixer = Mixer(72)
        shapes = [(line(">" * k), ("A", k + 1)) for k in range(8)]
        shapes += [(arms(1, 1, k), ("D", k + 3)) for k in range(1, 6)]
        shapes += [(arms(1, 2, k), ("E", k + 4)) for k in range(2, 5)]
        shapes += [(arms(2, 2, 2), None), (arms(1, 3, 3), None), (arms(1, 1, 1, 1), None), (arms(2, 2, 3), None),
                   (arms(1, 1, 1, 2), None), (arms(1, 1, 1, 1, 1), None)]
        for web, kind in shapes:
            self.assertEqual(kinds(web), [kind])
            for _ in range(12):
                self.assertEqual(self.same_twice(kinds, mixed_web(mixer, web)), [kind])
        for way in every_way(arms(1, 2, 2)):
            self.assertEqual(kinds(way), [("E", 6)])
        for way in every_way(arms(2, 1, 1)):
            self.assertEqual(kinds(way), [("D", 5)])
        for order in permutations(((0, 1), (2, 1), (3, 2))):
            self.assertEqual(kinds(Web(4, order)), [("A", 4)])

    def test_two_forks(self):
        for way in every_way(Web(6, ((0, 1), (2, 1), (1, 3), (3, 4), (3, 5)))):
            self.assertEqual(kinds(way), [None])

    def test_alike_arrows_rings_and_loops(self):
        for web in [Web(1, ((0, 0),)), Web(2, ((0, 1), (0, 1))), Web(2, ((0, 1), (1, 0))), Web(2, ((0, 1), (1, 1))),
                    Web(3, ((0, 1), (1, 2), (2, 0))), Web(3, ((0, 1), (1, 2), (0, 2))), Web(2, ((0, 1),) * 3),
                    Web(3, ((0, 1), (0, 1), (1, 2))), Web(8, tuple((k, (k + 1) % 8) for k in range(8)))]:
            self.assertEqual(kinds(web), [None])

    def test_parts_in_order(self):
        web = Web(8, ((7, 0), (1, 1), (2, 3), (4, 3), (5, 3)))
        self.assertEqual(parts(web), ((0, 7), (1,), (2, 3, 4, 5), (6,)))
        self.assertEqual(kinds(web), [("A", 2), None, ("D", 4), ("A", 1)])
        self.assertEqual(kinds(Web(3, ())), [("A", 1)] * 3)
        # As many arrows as a tree has, but not all of them in this part.
        self.assertEqual(kinds(Web(5, ((0, 1), (1, 0), (2, 3)))), [None, ("A", 2), ("A", 1)])

    def test_against_the_form(self):
        mixer = Mixer(73)
        webs = list(small_webs()) + list(random_trees(mixer, 400)) + list(random_webs(mixer, 200))
        for web in webs:
            found = kinds(web)
            self.assertIsInstance(found, list)
            self.assertEqual(found, [expected_kind(web, lot) for lot in parts(web)], web.arrows)

    def test_lists_are_new(self):
        web = line(">")
        kinds(web).append(None)
        self.assertEqual(kinds(web), [("A", 2)])
        rows(web).append(None)
        self.assertEqual(rows(web), [(0, 1), (1, 0), (1, 1)])

    def test_e04_and_e05(self):
        web = Web(3, ((0, 1), (2, 1)))
        self.assertEqual(kinds(web), [("A", 3)])
        self.assertEqual(rows(web), [(0, 0, 1), (0, 1, 0), (0, 1, 1), (1, 0, 0), (1, 1, 0), (1, 1, 1)])
        self.assertEqual(euler(web, (1, 1, 1), (0, 1, 0)), -1)
        self.assertEqual(form(Web(2, ((0, 1), (0, 1))), (1, 1)), 0)
        self.assertEqual(kinds(Web(2, ((0, 1), (0, 1)))), [None])
        self.assertIsNone(endless(web))


class Ends(Checks, unittest.TestCase):

    def check(self, web, row):
        """What 5.2 says of a row that endless tells, word by word."""
        self.assertIsInstance(row, tuple)
        self.assertEqual(len(row), web.many)
        for item in row:
            self.assertIs(item.__class__, int)
            self.assertGreaterEqual(item, 0)
        self.assertTrue(any(row))
        for place in range(web.many):
            around = 0
            for a, b in web.arrows:
                around += row[b] * (a == place) + row[a] * (b == place)
            self.assertLessEqual(2 * row[place], around, (web.arrows, row))
        inside = Web(web.many, tuple((a, b) for a, b in web.arrows if row[a] and row[b]))
        lots = [lot for lot in parts(inside) if any(row[place] for place in lot)]
        self.assertEqual(len(lots), 1, (web.arrows, row))
        self.assertLessEqual(form(web, row), 0)

    def test_each_sort(self):
        mixer = Mixer(74)
        sorts = [Web(1, ((0, 0),)), Web(1, ((0, 0),) * 12), Web(2, ((0, 1), (0, 1))), Web(2, ((0, 1), (1, 0))),
                 Web(2, ((0, 1),) * 12), Web(3, ((0, 1), (1, 2), (2, 0))), Web(3, ((0, 1), (1, 2), (0, 2))),
                 Web(8, tuple((k, (k + 1) % 8) for k in range(8))), arms(1, 1, 1, 1), arms(2, 2, 2), arms(1, 3, 3),
                 arms(1, 1, 1, 1, 1), arms(1, 1, 1, 1, 1, 1, 1), arms(2, 2, 3), arms(1, 1, 2, 3), arms(1, 2, 2, 2),
                 Web(6, ((0, 1), (2, 1), (1, 3), (3, 4), (3, 5))),
                 Web(8, ((0, 1), (2, 1), (1, 3), (3, 4), (4, 5), (5, 6), (5, 7))),
                 Web(4, ((0, 1), (0, 2), (0, 3), (1, 2), (1, 3), (2, 3))), Web(3, ((0, 1), (1, 2), (2, 2))),
                 Web(5, ((0, 1), (1, 2), (2, 3), (3, 1), (4, 4))), Web(6, ((0, 1), (2, 3), (3, 2), (4, 5), (5, 4))),
                 Web(8, ((5, 1), (2, 1), (1, 3), (3, 4), (4, 0), (7, 7)))]
        for web in sorts:
            for _ in range(6):
                row = self.same_twice(endless, web)
                self.assertIsNotNone(row)
                self.check(web, row)
                self.raises("Endless", rows, web)
                web = mixed_web(mixer, web)

    def test_none_exactly_if_all_parts_are_of_a_kind(self):
        mixer = Mixer(75)
        finite = 0
        for web in list(small_webs()) + list(random_trees(mixer, 300)) + list(random_webs(mixer, 300)):
            row = endless(web)
            expected = all(expected_kind(web, lot) is not None for lot in parts(web))
            finite += expected
            self.assertEqual(row is None, expected)
            if row is None:
                self.assertEqual(len(rows(web)), len(set(rows(web))))
            else:
                self.check(web, row)
                self.raises("Endless", rows, web)
        self.assertGreater(finite, 100)


class Rows(Checks, unittest.TestCase):

    def counted(self, web, most):
        return [row for row in product(range(most + 1), repeat=web.many) if form(web, row) == 1]

    def test_all_rows_gone_through(self):
        for web in [line(word) for word in ("", ">", "><", "<<", "><>", ">>>", "<><>")]:
            self.assertEqual(self.same_twice(rows, web), self.counted(web, 2))
        for web in every_way(arms(1, 1, 1)):
            self.assertEqual(rows(web), self.counted(web, 3))
        for web in [arms(1, 1, 2), Web(5, ((0, 1), (3, 2))), Web(4, ((3, 0), (0, 2), (1, 0)))]:
            self.assertEqual(self.same_twice(rows, web), self.counted(web, 3))
        self.assertEqual(rows(Web(3, ())), [(0, 0, 1), (0, 1, 0), (1, 0, 0)])

    def test_as_many_as_there_are(self):
        mixer = Mixer(76)
        manys = {"A": lambda n: n * (n + 1) // 2, "D": lambda n: n * (n - 1), "E": {6: 36, 7: 63, 8: 120}.get}
        webs = [line(">" * k) for k in range(8)] + [arms(1, 1, k) for k in range(1, 6)]
        webs += [arms(1, 2, k) for k in range(2, 5)] + [Web(8, ((0, 1), (1, 2), (1, 3), (4, 5), (6, 5)))]
        for start in webs:
            for _ in range(3):
                web = mixed_web(mixer, start)
                found = self.same_twice(rows, web)
                self.assertIsInstance(found, list)
                self.assertEqual(found, sorted(set(found)))
                self.assertEqual(len(found), sum(manys[letter](n) for letter, n in kinds(web)))
                for row in found:
                    self.assertEqual(form(web, row), 1)
                    self.assertTrue(all(item.__class__ is int and item >= 0 for item in row))
        self.assertIn((6, 3, 4, 2, 5, 4, 3, 2), rows(arms(1, 2, 4)))


if __name__ == "__main__":
    unittest.main()
