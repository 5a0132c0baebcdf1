"""0.2 to 0.5, over the whole program: each name of the interface, each argument that is judged."""

import importlib
import inspect
import unittest

from mapwebs import errors
from mapwebs.barlists import ban, is_ban, is_pairing, nearest, pairing
from mapwebs.desk import Desk
from mapwebs.families import family
from mapwebs.finite import counts, leadings_told, piece_of
from mapwebs.forms import endless, euler, form, kinds, rows
from mapwebs.leadings import back, behind, is_leading, leadings, many_leadings
from mapwebs.lines import bar_of, bars, bars_told, reach
from mapwebs.loops import loop_kinds, loop_piece
from mapwebs.nearness import is_near, near
from mapwebs.partings import alike, is_parting, matched, parting
from mapwebs.pencils import pencil_kinds, pencil_of
from mapwebs.pictures import Picture, based, beside
from mapwebs.polynomials import at_table, companion, factors, least_polynomial, product
from mapwebs.seals import is_piece, is_seal, seal
from mapwebs.strangers import is_refuted, picture_asked, refuted
from mapwebs.tables import (Table, corner, image, kernel, led, nought, plain, plus, rank, reduced, scaled, solved, times,
                            turned_about, undone)
from mapwebs.texts import picture_text, read_picture
from mapwebs.towers import Tower, exchanged, tower_bars, tower_picture
from mapwebs.turns import lost, turn, turned_leading
from mapwebs.webs import Web, line, parts, turned_web
from samples import Checks, Mixer, far_numbers, nested
from test_language import INTERFACE
from test_partings import mixed_bases
from test_pictures import mixed_picture, more_odd_things
from test_webs import small_webs

TABLE = Table(3, 2, ((1, 2), (0, 1)))
WEB = line("><")
PICTURE = Picture(WEB, 3, (2, 2, 1), (TABLE, Table(3, 1, ((1,), (0,)))))
BAR = bar_of(line(">>"), 3, 0, 1)
PIECE = bar_of(WEB, 3, 0, 2)
PENCIL = pencil_of(3, ("up", 1))
LEADING = tuple(plain(3, size) for size in PICTURE.sizes)
TOWER = Tower(((0,), (1,), (2,), (0, 1), (1, 2), (0, 2), (0, 1, 2)))
TOLD = {(0, 0): 2, (0, 1): 1, (1, 1): 1}
TEXT = "prime 2\nplaces 2\narrow 0 1\nsizes 2 1\ntable\n1 0\n"


def asker(arrow, column):
    return led(PICTURE.tables[arrow], column)


def tell(text):
    return Desk().tell(text)


# Each function with right arguments; for each that is judged what is raised, by its place, or False.
JUDGED = [
    (Table, (3, 2, ((1, 2), (0, 1))), {0: "BadTable", 1: "BadTable", 2: "BadTable"}),
    (led, (TABLE, (1, 2)), {1: "NoColumn"}),
    (scaled, (TABLE, 2), {1: "NoNumber"}),
    (plain, (3, 2), {0: "NoPrime", 1: "NoNumber"}),
    (nought, (3, 2, 1), {0: "NoPrime", 1: "NoNumber", 2: "NoNumber"}),
    (solved, (TABLE, (1, 2)), {1: "NoColumn"}),
    (product, (3, (1, 2), (2,)), {0: "NoPrime", 1: "NoPolynomial", 2: "NoPolynomial"}),
    (factors, (3, (1, 0, 1)), {0: "NoPrime", 1: "NoPolynomial"}),
    (at_table, ((1, 2), TABLE), {0: "NoPolynomial"}),
    (companion, (3, (1, 0, 1)), {0: "NoPrime", 1: "NoPolynomial"}),
    (Web, (3, ((0, 1), (2, 1))), {0: "BadWeb", 1: "BadWeb"}),
    (turned_web, (WEB, 1), {1: "NoTurn"}),
    (line, ("><",), {0: "NoWord"}),
    (Picture, (WEB, 3, (2, 2, 1), PICTURE.tables), {0: "BadPicture", 1: "BadPicture", 2: "BadPicture", 3: "BadPicture"}),
    (beside, (WEB, 3, [PICTURE, PIECE]), {1: "NoPrime", 2: "NoPictures"}),
    (based, (PICTURE, LEADING), {1: "NoBases"}),
    (is_leading, (PICTURE, PICTURE, LEADING), {2: False}),
    (behind, (LEADING, LEADING), {0: "NoLeading", 1: "NoLeading"}),
    (back, (LEADING,), {0: "NoLeading"}),
    (is_seal, (PIECE, seal(PIECE)), {1: False}),
    (is_piece, (PIECE,), {0: False}),
    (is_parting, (PICTURE, parting(PICTURE)), {1: False}),
    (matched, ((PIECE,), [PIECE]), {0: "NoPieces", 1: "NoPieces"}),
    (form, (WEB, (1, 2, -1)), {1: "NoRow"}),
    (euler, (WEB, (1, 2, -1), (0, 0, 1)), {1: "NoRow", 2: "NoRow"}),
    (piece_of, (WEB, 3, (1, 1, 0)), {1: "NoPrime", 2: "NoRow"}),
    (leadings_told, (WEB, (1, 1, 0), (0, 1, 0)), {1: "NoRow", 2: "NoRow"}),
    (family, (PENCIL.web, 3, 2), {1: "NoPrime", 2: "NoNumber"}),
    (turn, (PICTURE, 1), {1: "NoTurn"}),
    (lost, (PICTURE, 1), {1: "NoTurn"}),
    (turned_leading, (PICTURE, PICTURE, LEADING, 1), {2: "NoLeading", 3: "NoTurn"}),
    (bar_of, (WEB, 3, 0, 1), {1: "NoPrime", 2: "NoStretch", 3: "NoStretch"}),
    (reach, (PICTURE, 0, 1), {1: "NoStretch", 2: "NoStretch"}),
    (bars_told, (2, TOLD), {0: "NoNumber", 1: "NoReaches"}),
    (Tower, (TOWER.cells,), {0: "BadTower"}),
    (tower_bars, (TOWER, 3, 1), {1: "NoPrime", 2: "NoNumber"}),
    (tower_picture, (TOWER, 3, 1, (0, 6, 7)), {1: "NoPrime", 2: "NoNumber", 3: "NoStops"}),
    (exchanged, (TOWER, 1), {1: "NoNumber"}),
    (pairing, ([(0, 4)], ((1, 4),), 1), {0: "NoBars", 1: "NoBars", 2: "NoNumber"}),
    (ban, ([(0, 4)], ((1, 4),), 1), {0: "NoBars", 1: "NoBars", 2: "NoNumber"}),
    (nearest, ([(0, 4)], ((1, 4),)), {0: "NoBars", 1: "NoBars"}),
    (is_pairing, ([(0, 4)], ((1, 4),), 1, ((0, 0),)), {0: "NoBars", 1: "NoBars", 2: "NoNumber", 3: False}),
    (is_ban, ([(0, 4)], (), 1, (0, (0,))), {0: "NoBars", 1: "NoBars", 2: "NoNumber", 3: False}),
    (near, (BAR, BAR, 1), {2: "NoNumber"}),
    (is_near, (BAR, BAR, 1, near(BAR, BAR, 1)), {2: "NoNumber", 3: False}),
    (loop_piece, (3, (1, 0, 1), 2), {0: "NoPrime", 1: "NoPolynomial", 2: "NoNumber"}),
    (pencil_of, (3, ("up", 1)), {0: "NoPrime", 1: "NoKind"}),
    (refuted, (WEB, 3, (2, 2, 1), asker), {1: "NoPrime", 2: "NoSizes"}),
    (picture_asked, (WEB, 3, (2, 2, 1), asker), {1: "NoPrime", 2: "NoSizes"}),
    (is_refuted, (WEB, 3, (2, 2, 1), asker, (0, (1, 0), (0, 1))), {1: "NoPrime", 2: "NoSizes", 4: False}),
    (read_picture, (TEXT,), {0: "BadText"}),
    (tell, ("names",), {0: "NoLine"}),
]

# The others, whose arguments are of the described kinds alone.
PLAIN = [
    (times, (TABLE, TABLE)), (plus, (TABLE, TABLE)), (turned_about, (TABLE,)), (corner, (TABLE, TABLE)), (reduced, (TABLE,)),
    (rank, (TABLE,)), (kernel, (TABLE,)), (image, (TABLE,)), (undone, (TABLE,)), (least_polynomial, (TABLE,)), (parts, (WEB,)),
    (leadings, (PICTURE, PICTURE)), (many_leadings, (PICTURE, PICTURE)), (seal, (PIECE,)), (parting, (PICTURE,)),
    (alike, (PICTURE, PICTURE)), (kinds, (WEB,)), (endless, (WEB,)), (endless, (PENCIL.web,)), (rows, (WEB,)),
    (counts, (PICTURE,)), (bars, (PICTURE,)), (loop_kinds, (TABLE,)), (pencil_kinds, (PENCIL,)), (picture_text, (PICTURE,)),
]

SMALL = Table(3, 1, ((2,),))


def small_right_ones(call, place):
    """Odd things that are right ones here."""
    if call in (pairing, ban, nearest, is_pairing, is_ban):
        return [(), []] if place < 2 else []
    return {(scaled, 1): far_numbers(), (product, 1): [()], (product, 2): [()], (at_table, 0): [()], (line, 0): [""],
            (beside, 2): [(), []], (Tower, 0): [(), ((0,),)], (matched, 0): [(), []], (matched, 1): [(), []],
            (Web, 1): [()], (Table, 2): [()], (back, 0): [(), (SMALL,), (SMALL, SMALL)]}.get((call, place), [])


class Judged(Checks, unittest.TestCase):

    def test_each_argument_that_is_judged(self):
        for call, arguments, places in JUDGED:
            call(*arguments)
            for place, told in places.items():
                right = small_right_ones(call, place)
                for thing in more_odd_things() + far_numbers():
                    if any(thing.__class__ is other.__class__ and thing == other for other in right):
                        continue
                    passed = arguments[:place] + (thing,) + arguments[place + 1:]
                    if told is False:
                        before = self.frozen(passed)
                        self.assertIs(call(*passed), False, (call, place, self.short(thing)))
                        self.assertEqual(self.frozen(passed), before)
                        continue
                    with self.assertRaises(getattr(errors, told), msg=(call, place, self.short(thing))) as caught:
                        call(*passed)
                    self.assertIs(caught.exception.__class__, getattr(errors, told))

    def test_right_things_nested_in_what_they_are_not(self):
        for call, arguments, places in JUDGED:
            for place, told in places.items():
                thing = arguments[place]
                others = [[thing], {0: thing}, (thing, thing), nested(lambda x: (x,), 30, thing)]
                if isinstance(thing, tuple) and call not in (matched, pairing, ban, nearest, is_pairing, is_ban, beside):
                    others.append(list(thing))
                for other in others:
                    passed = arguments[:place] + (other,) + arguments[place + 1:]
                    if told is False:
                        self.assertIs(call(*passed), False, (call, place, other))
                    else:
                        with self.assertRaises(getattr(errors, told), msg=(call, place, self.short(other))):
                            call(*passed)

    def test_flags_that_is_functions_return(self):
        for call, arguments, places in JUDGED:
            if call.__name__.startswith("is_"):
                self.assertIn(call(*arguments), (True, False))
                self.assertIsInstance(call(*arguments), bool)


class Answers(Checks, unittest.TestCase):

    def test_equal_calls_and_nothing_changed(self):
        for call, arguments in [(call, arguments) for call, arguments, _ in JUDGED] + PLAIN:
            self.same_twice(call, *arguments)
            self.assertEqual(call(*arguments), call(*arguments))

    def test_lists_and_dicts_are_new(self):
        for call, arguments in PLAIN:
            answer = call(*arguments)
            kept = self.frozen(answer)
            if isinstance(answer, (list, dict)):
                self.assertIsNot(call(*arguments), answer)
                answer.clear()
                self.assertEqual(self.frozen(call(*arguments)), kept)

    def test_objects_keep_what_they_were_made_of(self):
        lists = [[(0, 1)], [(0, 2)]]
        pairing(lists[0], lists[1], 1)
        self.assertEqual(lists, [[(0, 1)], [(0, 2)]])
        pictures = [PICTURE, PIECE]
        whole = beside(WEB, 3, pictures)
        pictures.clear()
        self.assertEqual(whole, beside(WEB, 3, (PICTURE, PIECE)))

    def test_objects_are_equal_to_nothing_of_another_class(self):
        objects = [TABLE, WEB, PICTURE, TOWER, Desk(), errors.NoPrime(), errors.BadTable("wide")]
        for one in objects:
            for other in objects + more_odd_things() + [vars(one), tuple(vars(one).values())]:
                if one.__class__ is not other.__class__:
                    self.assertFalse(one == other)
                    self.assertTrue(one != other)
            self.assertTrue(one == one)

    def test_sizes_beyond_the_bounds_of_constructors(self):
        mixer = Mixer(270)
        whole = beside(line(">"), 3, [mixed_picture(mixer, line(">"), 3, sizes=(5, 6)) for _ in range(3)])
        whole = based(whole, mixed_bases(mixer, 3, whole.sizes))
        self.assertEqual(whole.sizes, (15, 18))
        pieces, leading = parting(whole)
        self.assertTrue(is_parting(whole, (pieces, leading)))
        self.assertEqual(sum(many for begin, end, many in bars(whole)), len(pieces))
        self.assertEqual(sum(counts(whole).values()), len(pieces))
        self.assertEqual(reach(whole, 0, 1), rank(whole.tables[0]))
        self.assertEqual(turn(whole, 1).sizes[0], 15)
        self.assertEqual(lost(whole, 1), 18 - rank(whole.tables[0]))
        self.assertIsNotNone(back(alike(whole, based(whole, mixed_bases(mixer, 3, whole.sizes)))))
        self.assertIs(is_near(whole, whole, 1, near(whole, whole, 1)), True)
        self.assertEqual(picture_text(whole).split("\n")[3], "sizes 15 18")
        plain_table = corner(plain(3, 12), plain(3, 12))
        for call in (undone, reduced, turned_about):
            self.assertEqual(call(plain_table), plain_table)
        self.assertEqual((rank(plain_table), kernel(plain_table), len(image(plain_table))), (24, (), 24))
        self.assertEqual(loop_kinds(plain_table), (((2, 1), 1, 24),))
        self.assertEqual(led(plain_table, (1, 2) * 12), (1, 2) * 12)
        self.assertEqual(solved(plain_table, (1, 2) * 12), (1, 2) * 12)


class Interface(unittest.TestCase):

    def test_each_name_is_defined_in_its_file(self):
        for name, words in INTERFACE.items():
            module = importlib.import_module("mapwebs." + name)
            for word in words.split():
                thing = getattr(module, word)
                self.assertEqual(thing.__module__, "mapwebs." + name)
                self.assertEqual(thing.__name__, word)
        self.assertIn("tell", vars(Desk))
        for kind in (Table, Web, Picture, Tower):
            self.assertIn("__eq__", vars(kind))

    def test_all_are_gone_through_here(self):
        called = {call for call, arguments, places in JUDGED} | {call for call, arguments in PLAIN}
        for name, words in INTERFACE.items():
            for word in words.split():
                if word != "Desk":
                    self.assertIn(getattr(importlib.import_module("mapwebs." + name), word), called)

    def test_arguments_as_written(self):
        told = {Table: "prime wide rows", Web: "many arrows", Picture: "web prime sizes tables", Tower: "cells",
                led: "table column", is_pairing: "one other e thing", is_ban: "one other e thing", pairing: "one other e",
                ban: "one other e", nearest: "one other", is_near: "one other e thing", near: "one other e",
                loop_piece: "prime poly power", loop_kinds: "table", pencil_of: "prime kind", pencil_kinds: "picture",
                refuted: "web prime sizes asker", is_refuted: "web prime sizes asker thing",
                picture_asked: "web prime sizes asker", picture_text: "picture", read_picture: "text", Desk: "",
                Desk.tell: "self line"}
        for thing, words in told.items():
            self.assertEqual(list(inspect.signature(thing).parameters), words.split())

    def test_attributes_are_set_when_created(self):
        for thing, names in ((TABLE, "prime wide rows high"), (WEB, "many arrows"), (PICTURE, "web prime sizes tables"),
                             (TOWER, "cells")):
            self.assertEqual(sorted(vars(thing)), sorted(names.split()))


class Facts(unittest.TestCase):

    def test_finite_webs_are_told_from_others_alike_everywhere(self):
        for web in small_webs():
            told = endless(web)
            self.assertEqual(told is None, None not in kinds(web))
            try:
                rows(web)
                self.assertIsNone(told)
            except errors.Endless:
                self.assertEqual(family(web, 2, 1)[0], told)


if __name__ == "__main__":
    unittest.main()
