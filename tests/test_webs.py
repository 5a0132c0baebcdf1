"""3.1, and what 7.1 and 8.1 say of webs."""

import unittest
from itertools import product

from mapwebs.pictures import Picture
from mapwebs.webs import Web, line, parts, turned_web
from samples import Checks, far_numbers, odd_things


def more_odd_things():
    return odd_things() + [Web(2, ((0, 1),)), Picture(Web(1, ()), 2, (0,), ())]


def small_webs():
    """All webs of up to 3 places with up to 3 arrows, but for the arrows' order."""
    for many in (1, 2, 3):
        pairs = list(product(range(many), repeat=2))
        for length in range(4):
            for arrows in product(pairs, repeat=length):
                if list(arrows) == sorted(arrows):
                    yield Web(many, arrows)


class Construction(Checks, unittest.TestCase):

    def test_attributes(self):
        web = Web(3, ((0, 1), (2, 1), (0, 1), (2, 2)))
        self.assertEqual((web.many, web.arrows), (3, ((0, 1), (2, 1), (0, 1), (2, 2))))
        self.assertEqual(sorted(vars(web)), ["arrows", "many"])

    def test_edges_that_are_right(self):
        for many in range(1, 9):
            self.assertEqual(Web(many, ()).arrows, ())
            arrows = ((many - 1, many - 1),) * 6 + ((0, many - 1),) * 6
            self.assertEqual(Web(many, arrows).arrows, arrows)

    def test_odd_manys(self):
        for thing in more_odd_things() + far_numbers() + [0, 9, 10]:
            self.raises("BadWeb", Web, thing, (), part="many")
            self.raises("BadWeb", Web, thing, thing, part="many")

    def test_odd_arrows(self):
        for thing in more_odd_things() + far_numbers():
            if not isinstance(thing, tuple) or len(thing) > 12:
                self.raises("BadWeb", Web, 2, thing, part="arrows")
            elif len(thing) > 0:
                self.raises("BadWeb", Web, 2, thing, part=0)
        self.raises("BadWeb", Web, 2, [(0, 1)], part="arrows")
        self.raises("BadWeb", Web, 2, ((0, 1),) * 13, part="arrows")
        self.raises("BadWeb", Web, 2, (None,) * 13, part="arrows")

    def test_the_first_arrow_that_is_none(self):
        wrong = [(0,), (0, 1, 1), [0, 1], (0, 3), (3, 0), (-1, 0), (0, -1), (True, 0), (0, False), (0, None),
                 ("0", 1), "01", b"01", {0: 1, 1: 0}, range(2), (0, (1,)), (0, [1]), 0, 10 ** 11]
        for arrow in wrong + more_odd_things() + far_numbers():
            for at in range(6):
                arrows = ((0, 1),) * at + (arrow,) + ((2, 2),) * (5 - at)
                self.raises("BadWeb", Web, 3, arrows, part=at)
                self.raises("BadWeb", Web, 3, ((1, 2),) * at + (arrow,) * (12 - at), part=at)

    def test_a_web_is_equal_to_its_like_alone(self):
        one = Web(2, ((0, 1), (1, 1)))
        self.assertEqual(one, Web(2, ((0, 1), (1, 1))))
        self.assertFalse(one != Web(2, ((0, 1), (1, 1))))
        for other in [Web(3, ((0, 1), (1, 1))), Web(2, ((1, 1), (0, 1))), Web(2, ((0, 1),)),
                      (2, ((0, 1), (1, 1))), ((0, 1), (1, 1))] + odd_things():
            self.assertFalse(one == other)
            self.assertFalse(other == one)
            self.assertTrue(one != other)
        self.assertIn("__eq__", vars(Web))


class Parts(Checks, unittest.TestCase):

    def hang_together(self, web):
        """Lots, grown from each place until no arrow leads out of it or into it."""
        lots = set()
        for place in range(web.many):
            lot = {place}
            for _ in range(web.many):
                for begin, end in web.arrows:
                    if begin in lot or end in lot:
                        lot |= {begin, end}
            lots.add(tuple(sorted(lot)))
        return tuple(sorted(lots))

    def test_small_webs(self):
        for web in small_webs():
            self.assertEqual(parts(web), self.hang_together(web))

    def test_larger_webs(self):
        for many, arrows in [(8, ()), (8, ((7, 0), (6, 1), (5, 2), (4, 3))), (8, ((0, 7), (7, 3), (3, 0), (5, 5))),
                             (8, tuple((k, k + 1) for k in range(7))), (8, tuple((k + 1, k) for k in range(7))),
                             (6, ((5, 4), (3, 2), (1, 0), (4, 2))), (7, ((6, 0), (5, 6), (1, 2), (4, 1), (2, 3)))]:
            web = Web(many, arrows)
            self.assertEqual(self.same_twice(parts, web), self.hang_together(web))
        self.assertEqual(parts(Web(4, ((3, 0),))), ((0, 3), (1,), (2,)))
        self.assertEqual(parts(Web(1, ())), ((0,),))


class Turned(Checks, unittest.TestCase):

    def test_each_place_of_small_webs(self):
        for web in small_webs():
            for place in range(web.many):
                begins = any(begin == place for begin, end in web.arrows)
                ends = any(end == place for begin, end in web.arrows)
                if begins and ends:
                    self.raises("NoTurn", turned_web, web, place)
                else:
                    turned = self.same_twice(turned_web, web, place)
                    self.assertEqual(turned.many, web.many)
                    self.assertEqual(len(turned.arrows), len(web.arrows))
                    for arrow, other in zip(web.arrows, turned.arrows):
                        self.assertEqual(other, arrow[::-1] if place in arrow else arrow)
                    self.assertEqual(turned_web(turned, place), web)

    def test_example_and_order(self):
        web = Web(3, ((0, 1), (2, 1)))
        self.assertEqual(turned_web(web, 1).arrows, ((1, 0), (1, 2)))
        self.assertEqual(turned_web(web, 0).arrows, ((1, 0), (2, 1)))
        self.assertEqual(turned_web(Web(3, ((0, 1), (0, 1), (0, 2), (1, 2))), 0).arrows,
                         ((1, 0), (1, 0), (2, 0), (1, 2)))
        self.assertEqual(turned_web(Web(2, ()), 1), Web(2, ()))

    def test_no_turn(self):
        web = Web(3, ((0, 1), (1, 2), (2, 2)))
        for thing in more_odd_things() + far_numbers() + [1, 2, 3, 8]:
            self.raises("NoTurn", turned_web, web, thing)
        for thing in more_odd_things() + far_numbers() + [2]:
            self.raises("NoTurn", turned_web, Web(2, ()), thing)


class Lines(Checks, unittest.TestCase):

    def test_each_word(self):
        for length in range(8):
            for signs in product("<>", repeat=length):
                word = "".join(signs)
                web = self.same_twice(line, word)
                self.assertEqual(web.many, length + 1)
                self.assertEqual(len(web.arrows), length)
                for k, sign in enumerate(word):
                    self.assertEqual(web.arrows[k], (k, k + 1) if sign == ">" else (k + 1, k))
        self.assertEqual(line(""), Web(1, ()))
        self.assertEqual(line("><"), Web(3, ((0, 1), (2, 1))))

    def test_no_word(self):
        words = ["x", " ", "\n", ">\n", "> <", ">-<", "=", ">" * 8, "<" * 8, ">" * 20000, "><><><><", ">>>>>>>x"]
        for thing in more_odd_things() + far_numbers() + words + [[">"], (">", "<"), b">", b"<>", {">": "<"}, 0]:
            if thing != "":
                self.raises("NoWord", line, thing)


if __name__ == "__main__":
    unittest.main()
