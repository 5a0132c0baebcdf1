"""14.1: a desk that works by lines."""

import re
import unittest

from mapwebs import errors
from mapwebs.desk import Desk
from mapwebs.forms import kinds
from mapwebs.leadings import many_leadings
from mapwebs.lines import bar_of, bars
from mapwebs.partings import alike, parting
from mapwebs.pictures import Picture, based, beside
from mapwebs.tables import Table, nought, plain
from mapwebs.texts import picture_text, read_picture
from mapwebs.turns import turn
from mapwebs.webs import Web, line
from samples import Checks, Mixer, far_numbers
from test_partings import mixed_bases
from test_pictures import mixed_picture, more_odd_things

ONE = "prime 2|places 2|arrow 0 1|sizes 2 1|table|1 0|"
POINT = "prime 3|places 1|sizes 2|"
PENCIL = "prime 2|places 2|arrow 0 1|arrow 0 1|sizes 1 1|table|1|table|0|"
NAME, NUMBER = "[a-z]{1,8}", "(?:0|[1-9][0-9]{0,8})"
PATTERNS = ["lay %s .+" % NAME, "drop %s" % NAME, "names", "show %s" % NAME, "pieces %s" % NAME,
            "alike %s %s" % (NAME, NAME), "leadings %s %s" % (NAME, NAME), "turn %s %s %s" % (NAME, NUMBER, NAME),
            "beside %s %s %s" % (NAME, NAME, NAME), "kinds %s" % NAME, "bars %s" % NAME, "undo"]


def text_of(picture):
    return picture_text(picture).replace("\n", "|")


def desk_with(**pictures):
    desk = Desk()
    for name, picture in pictures.items():
        desk.tell("lay %s %s" % (name, picture if isinstance(picture, str) else text_of(picture)))
    return desk


def whole(desk):
    """All that a desk keeps, as its lines tell it."""
    names = desk.tell("names")
    return names, [desk.tell("show " + name) for name in names.split(" ")] if names != "none" else []


class Model:
    """A desk that keeps a whole copy for each undo."""

    def __init__(self):
        self.kept, self.older = {}, []

    def tell(self, words):
        word, names = words[0], words[1:]
        if word == "undo":
            if not self.older:
                raise errors.NothingDone()
            self.kept = self.older.pop()
            return "ok"
        if word == "names":
            return " ".join(sorted(self.kept)) or "none"
        needed = {"lay": 0, "turn": 1, "alike": 2, "leadings": 2, "beside": 2}.get(word, 1)
        for name in names[:needed]:
            if name not in self.kept:
                raise errors.NoName(name)
        pictures = [self.kept[name] for name in names[:needed]]
        if word in ("lay", "drop", "turn", "beside"):
            after = dict(self.kept)
            if word == "lay":
                after[names[0]] = read_picture(names[1].replace("|", "\n"))
            elif word == "drop":
                del after[names[0]]
            elif word == "turn":
                after[names[2]] = turn(pictures[0], int(names[1]))
            else:
                one, other = pictures
                if (one.web, one.prime) != (other.web, other.prime):
                    raise errors.OtherWeb()
                after[names[2]] = beside(one.web, one.prime, pictures)
            self.older.append(self.kept)
            self.kept = after
            return "ok"
        if word == "show":
            return text_of(pictures[0])
        if word == "pieces":
            sizes = sorted(piece.sizes for piece in parting(pictures[0])[0])
            return " ".join(",".join(map(str, row)) for row in sizes) or "none"
        if word == "alike":
            return "yes" if alike(*pictures) else "no"
        if word == "leadings":
            return str(many_leadings(*pictures))
        if word == "kinds":
            return " ".join("-" if kind is None else "%s%d" % kind for kind in kinds(pictures[0].web))
        return " ".join("%d-%d:%d" % bar for bar in bars(pictures[0])) or "none"


class Lines(Checks, unittest.TestCase):

    def test_lay_show_names_and_drop(self):
        desk = Desk()
        self.assertEqual(desk.tell("names"), "none")
        self.assertEqual(desk.tell("lay b " + ONE), "ok")
        self.assertEqual(desk.tell("lay a " + POINT), "ok")
        self.assertEqual(desk.tell("lay ab " + POINT), "ok")
        self.assertEqual(desk.tell("lay zzzzzzzz " + PENCIL), "ok")
        self.assertEqual(desk.tell("names"), "a ab b zzzzzzzz")
        self.assertEqual((desk.tell("show b"), desk.tell("show a"), desk.tell("show zzzzzzzz")), (ONE, POINT, PENCIL))
        self.assertEqual(desk.tell("lay b " + POINT), "ok")
        self.assertEqual((desk.tell("show b"), desk.tell("names")), (POINT, "a ab b zzzzzzzz"))
        self.assertEqual(desk.tell("drop ab"), "ok")
        self.assertEqual(desk.tell("names"), "a b zzzzzzzz")
        self.raises("NoName", desk.tell, "show ab", name="ab")
        for name in ("a", "b", "zzzzzzzz"):
            self.assertEqual(desk.tell("drop " + name), "ok")
        self.assertEqual(desk.tell("names"), "none")

    def test_words_of_lines_are_names_too(self):
        desk = Desk()
        for name in ("names", "undo", "lay", "drop", "none", "k", "alike", "pieces"):
            self.assertEqual(desk.tell("lay %s %s" % (name, POINT)), "ok")
        self.assertEqual(desk.tell("names"), "alike drop k lay names none pieces undo")
        self.assertEqual(desk.tell("drop undo"), "ok")
        self.assertEqual(desk.tell("show names"), POINT)
        self.assertEqual(desk.tell("undo"), "ok")
        self.assertEqual(desk.tell("show undo"), POINT)

    def test_pieces(self):
        mixer = Mixer(260)
        desk = desk_with(a=ONE, b=POINT, none="prime 2|places 3|sizes 0 0 0|", c=PENCIL)
        self.assertEqual(desk.tell("pieces a"), "1,0 1,1")
        self.assertEqual(desk.tell("pieces b"), "1 1")
        self.assertEqual(desk.tell("pieces none"), "none")
        self.assertEqual(desk.tell("pieces c"), "1,1")
        desk.tell("lay l prime 2|places 1|arrow 0 0|sizes 2|table|0 0|1 0|")
        loop = Picture(Web(1, ((0, 0),)), 2, (6,), (Table(2, 6, tuple(
            tuple(int(row == k + 1) for k in range(6)) for row in range(6))),))
        desk.tell("lay m " + text_of(loop))
        desk.tell("beside l m n")
        self.assertEqual(desk.tell("pieces n"), "2 6")
        picture = mixed_picture(mixer, line("><"), 5, sizes=(2, 3, 2))
        desk.tell("lay x " + text_of(picture))
        rows = [row.split(",") for row in desk.tell("pieces x").split(" ")]
        self.assertEqual([sum(int(row[place]) for row in rows) for place in range(3)], [2, 3, 2])

    def test_sizes_ascend_as_numbers(self):
        web = Web(2, ((0, 1), (0, 1)))
        down = Picture(web, 2, (2, 1), (Table(2, 2, ((1, 0),)), Table(2, 2, ((0, 1),))))
        desk = desk_with(q=down, p=down)
        for _ in range(5):
            desk.tell("turn q 1 q")
            desk.tell("turn q 0 q")
        self.assertEqual(desk.tell("pieces q"), "12,11")
        desk.tell("beside q p r")
        self.assertEqual(desk.tell("pieces r"), "2,1 12,11")

    def test_alike_and_leadings(self):
        mixer = Mixer(261)
        one = mixed_picture(mixer, line("<>"), 3, sizes=(2, 3, 1))
        other = based(one, mixed_bases(mixer, 3, one.sizes))
        smaller = mixed_picture(mixer, line("<>"), 3, sizes=(1, 3, 1))
        desk = desk_with(one=one, other=other, smaller=smaller, far=ONE)
        self.assertEqual(desk.tell("alike one other"), "yes")
        self.assertEqual(desk.tell("alike one one"), "yes")
        self.assertEqual(desk.tell("alike one smaller"), "no")
        self.assertEqual(desk.tell("leadings one other"), str(many_leadings(one, other)))
        self.assertEqual(desk.tell("leadings smaller one"), str(many_leadings(smaller, one)))
        desk.tell("lay e prime 3|places 3|arrow 1 0|arrow 1 2|sizes 0 0 0|table|table|")
        self.assertEqual(desk.tell("leadings e one"), "0")
        for word in ("alike", "leadings"):
            self.raises("OtherWeb", desk.tell, word + " one far")
            self.raises("OtherWeb", desk.tell, word + " far one")

    def test_turn(self):
        desk = desk_with(a=ONE, c=PENCIL)
        self.assertEqual(desk.tell("turn a 1 b"), "ok")
        self.assertEqual(desk.tell("show b"), text_of(turn(read_picture(ONE.replace("|", "\n")), 1)))
        self.assertEqual(desk.tell("show a"), ONE)
        self.assertEqual(desk.tell("turn a 0 a"), "ok")
        self.assertEqual(desk.tell("show a"), text_of(turn(read_picture(ONE.replace("|", "\n")), 0)))
        desk.tell("lay l prime 2|places 2|arrow 0 0|arrow 0 1|sizes 0 0|table|table|")
        for place in ("0", "2", "8", "999999999"):
            self.raises("NoTurn", desk.tell, "turn l %s l" % place)
        self.raises("NoName", desk.tell, "turn x 9 a", name="x")
        self.assertEqual(desk.tell("turn a 0 x"), "ok")

    def test_beside(self):
        desk = desk_with(a=ONE, b="prime 2|places 2|arrow 0 1|sizes 0 1|table|-|", c=PENCIL, d=ONE.replace("prime 2", "prime 3"))
        self.assertEqual(desk.tell("beside a b e"), "ok")
        self.assertEqual(desk.tell("show e"), "prime 2|places 2|arrow 0 1|sizes 2 2|table|1 0|0 0|")
        self.assertEqual(desk.tell("beside b a a"), "ok")
        self.assertEqual(desk.tell("show a"), "prime 2|places 2|arrow 0 1|sizes 2 2|table|0 0|1 0|")
        for _ in range(4):
            self.assertEqual(desk.tell("beside a a a"), "ok")
        self.assertEqual(desk.tell("show a").split("|")[3], "sizes 32 32")
        self.assertEqual(desk.tell("bars a"), "0-0:16 0-1:16 1-1:16")
        self.raises("OtherWeb", desk.tell, "beside a c x")
        self.raises("OtherWeb", desk.tell, "beside e d x")
        self.raises("NoName", desk.tell, "beside x y z", name="x")
        self.raises("NoName", desk.tell, "beside a y z", name="y")
        self.assertEqual(desk.tell("names"), "a b c d e")

    def test_kinds_and_bars(self):
        desk = desk_with(a=ONE, b=POINT, c=PENCIL)
        self.assertEqual((desk.tell("kinds a"), desk.tell("kinds b"), desk.tell("kinds c")), ("A2", "A1", "-"))
        desk.tell("lay w prime 2|places 8|arrow 0 3|arrow 1 3|arrow 2 3|arrow 4 5|arrow 4 5|sizes 0 0 0 0 0 0 0 0|"
                  + "table|" * 5)
        self.assertEqual(desk.tell("kinds w"), "D4 - A1 A1")
        desk.tell("lay e prime 2|places 6|arrow 0 1|arrow 1 2|arrow 2 3|arrow 3 4|arrow 5 2|sizes 0 0 0 0 0 0|" + "table|" * 5)
        self.assertEqual(desk.tell("kinds e"), "E6")
        self.assertEqual(desk.tell("bars a"), "0-0:1 0-1:1")
        self.assertEqual(desk.tell("bars b"), "0-0:2")
        for name in ("c", "w", "e"):
            self.raises("NoLine", desk.tell, "bars " + name)
        desk.tell("lay n prime 2|places 2|arrow 1 0|sizes 0 0|table|")
        self.assertEqual(desk.tell("bars n"), "none")
        many = beside(line("<>"), 5, [bar_of(line("<>"), 5, 0, 2)] * 3 + [bar_of(line("<>"), 5, 1, 1)])
        desk.tell("lay m " + text_of(many))
        self.assertEqual(desk.tell("bars m"), "0-2:3 1-1:1")


class Undo(Checks, unittest.TestCase):

    def test_each_in_turn(self):
        desk = Desk()
        self.raises("NothingDone", desk.tell, "undo")
        steps = ["lay a " + ONE, "lay b " + PENCIL, "lay a " + POINT, "drop b", "lay b " + ONE, "turn b 1 c", "turn b 1 b",
                 "turn b 0 c", "lay c " + ONE, "beside c c d", "beside d c d", "beside c d c", "drop d", "drop a", "lay e " + ONE]
        states = []
        for step in steps:
            states.append(whole(desk))
            self.assertEqual(desk.tell(step), "ok", step)
            for word in ("names", "show b", "pieces b", "kinds b", "alike b b", "leadings b b"):
                try:
                    desk.tell(word)
                except errors.NoName:
                    pass
        for state in states[::-1]:
            self.assertEqual(desk.tell("undo"), "ok")
            self.assertEqual(whole(desk), state)
        self.raises("NothingDone", desk.tell, "undo")
        self.assertEqual(desk.tell("names"), "none")
        self.assertEqual(desk.tell("lay a " + ONE), "ok")
        self.assertEqual(desk.tell("undo"), "ok")
        self.raises("NothingDone", desk.tell, "undo")

    def test_after_lines_that_failed_or_told_only(self):
        desk = desk_with(a=ONE, b=POINT)
        before = whole(desk)
        for wrong, name, fields in (("turn b 1 a", "NoTurn", {}), ("beside a b a", "OtherWeb", {}), ("lay a x", "BadText", {"line": 1}),
                                    ("drop c", "NoName", {"name": "c"}), ("undo x", "NoLine", {}), ("drop", "NoLine", {})):
            self.raises(name, desk.tell, wrong, **fields)
            self.assertEqual(whole(desk), before)
        self.assertEqual(desk.tell("undo"), "ok")
        self.assertEqual(desk.tell("names"), "a")
        self.raises("NoName", desk.tell, "drop b", name="b")
        self.assertEqual(desk.tell("undo"), "ok")
        self.raises("NothingDone", desk.tell, "undo")
        self.raises("NothingDone", desk.tell, "undo")

    def test_of_lines_that_change_nothing_to_be_seen(self):
        desk = desk_with(a=POINT)
        for _ in range(3):
            self.assertEqual(desk.tell("lay a " + POINT), "ok")
        for _ in range(3):
            self.assertEqual(desk.tell("undo"), "ok")
            self.assertEqual(desk.tell("show a"), POINT)
        self.assertEqual(desk.tell("undo"), "ok")
        self.assertEqual(desk.tell("names"), "none")

    def test_desks_know_nothing_of_one_another(self):
        one, other = desk_with(a=ONE), desk_with(a=POINT)
        one.tell("drop a")
        self.assertEqual((one.tell("names"), other.tell("names")), ("none", "a"))
        self.raises("NothingDone", Desk().tell, "undo")
        self.assertNotEqual(one, other)


class Errors(Checks, unittest.TestCase):

    def setUp(self):
        self.desk = desk_with(a=ONE, b=POINT)
        self.before = whole(self.desk)

    def test_lines_that_are_no_strings(self):
        for thing in more_odd_things() + far_numbers() + [b"names", ["names"], ("undo",), {"names": 1}]:
            self.raises("NoLine", self.desk.tell, thing)
        self.assertEqual(whole(self.desk), self.before)

    def test_lines_of_no_form(self):
        wrong = ["", " ", "names ", " names", "Names", "name", "names a", "names none", "undo ", " undo", "undo a", "undo 1",
                 "UNDO", "redo", "lay", "lay ", "lay a", "lay a ", "lay  a x", " lay a x", "lay A x", "lay a1 x", "lay abcdefghi x",
                 "lay  x", "laya x", "drop", "drop ", "drop  a", "drop a ", "drop a b", "drop A", "drop abcdefghi", "drop a1",
                 "drop _", "show", "show a a", "show a|", "show 1", "pieces", "pieces a b", "alike", "alike a", "alike a b a",
                 "alike a  b", "alike  a b", "leadings a", "leadings a b c", "leadings a 1", "turn a 1", "turn a b", "turn a 1 b c",
                 "turn a b 1", "turn 1 a b", "turn a 01 b", "turn a 00 b", "turn a +1 b", "turn a -1 b", "turn a 1234567890 b",
                 "turn a 0000000001 b", "turn a  b", "turn a 1 ", "turn a 1  b", "turn a x b", "turn a 1 B", "turn a 1.0 b",
                 "turn a 1 abcdefghi", "beside a a", "beside a a a a", "beside a a A", "beside a a abcdefghi", "beside a a  a",
                 "beside a b 1", "kinds", "kinds a b", "bars", "bars a b", "bars a ", "none", "a", "|", "show a\n", "names\n",
                 "lay a " + ONE.replace("|", "\n"), "undo\n", "\nundo", "drop a\nb", "lay a prime 2|places 1|sizes 0\n"]
        for text in wrong:
            self.assertFalse(any(re.fullmatch(pattern, text) for pattern in PATTERNS), text)
            self.raises("NoLine", self.desk.tell, text)
        self.assertEqual(whole(self.desk), self.before)

    def test_each_form_with_each_sign_otherwise(self):
        lines = ["lay c " + POINT, "drop a", "names", "show a", "pieces a", "alike a b", "leadings a a", "turn a 1 cc",
                 "beside a a cc", "kinds a", "bars b", "undo", "drop abcdefgh", "turn a 999999999 abcdefgh"]
        for text in lines:
            for at in range(len(text) + 1):
                for broken in [text[:at] + text[at + 1:]] + [text[:at] + sign + text[at:] for sign in " az0A|\n"]:
                    desk = desk_with(a=ONE, b=POINT)
                    if any(re.fullmatch(pattern, broken) for pattern in PATTERNS):
                        try:
                            self.assertIsInstance(desk.tell(broken), str)
                        except errors.NoLine:
                            self.assertRegex(broken, r"\Abars ", broken)
                        except errors.WebError:
                            pass
                    else:
                        self.raises("NoLine", desk.tell, broken)

    def test_no_name(self):
        for text, name in (("drop c", "c"), ("show c", "c"), ("pieces c", "c"), ("alike c d", "c"), ("alike a d", "d"),
                           ("alike d a", "d"), ("leadings c d", "c"), ("leadings a c", "c"), ("turn c 0 a", "c"),
                           ("turn c 999999999 d", "c"), ("beside c d e", "c"), ("beside a d e", "d"), ("beside d a a", "d"),
                           ("beside b d a", "d"), ("kinds c", "c"), ("bars c", "c"), ("drop abcdefgh", "abcdefgh")):
            self.raises("NoName", self.desk.tell, text, name=name)
        self.assertEqual(whole(self.desk), self.before)
        # No picture is needed where one is put.
        for text in ("turn a 0 new", "beside a a newer", "lay newest " + POINT):
            self.assertEqual(self.desk.tell(text), "ok")

    def test_what_lay_raises(self):
        for text, name, fields in (("x", "BadText", {"line": 1}), (" ", "BadText", {"line": 1}), ("|", "BadText", {"line": 1}),
                                   (" " + POINT, "BadText", {"line": 1}), (POINT[:-1], "BadText", {"line": 3}),
                                   (POINT + "|", "BadText", {"line": 4}), (POINT + " ", "BadText", {"line": 4}),
                                   ("prime 3|places 9|sizes 2|", "BadWeb", {"part": "many"}),
                                   ("prime 4|places 1|sizes 7|", "BadPicture", {"part": "prime"}),
                                   ("prime 3|places 1|sizes 7|", "BadPicture", {"part": "sizes"}),
                                   ("prime 3|places 1|arrow 0 0|sizes 1|table|3|", "BadPicture", {"part": 0})):
            self.raises(name, self.desk.tell, "lay a " + text, **fields)
            self.raises(name, self.desk.tell, "lay c " + text, **fields)
            self.assertEqual(whole(self.desk), self.before)

    def test_names_of_letters(self):
        for name in ("a", "z", "abcdefgh", "zzzzzzzz", "qwertyui"):
            self.assertEqual(self.desk.tell("lay %s %s" % (name, POINT)), "ok")
            self.assertEqual(self.desk.tell("show " + name), POINT)
        for name in ("abcdefghi", "A", "aB", "a1", "1", "a_", "-", "|", "a.", "", " "):
            self.raises("NoLine", self.desk.tell, "lay %s %s" % (name, POINT))
            self.raises("NoLine", self.desk.tell, "show " + name)


class Long(Checks, unittest.TestCase):

    def test_against_a_model(self):
        mixer = Mixer(262)
        names = ["a", "b", "cc", "missing"]
        texts = [text_of(mixed_picture(mixer, web, prime, 2)) for web in (line(">"), line("<>"), Web(2, ((0, 1),) * 2))
                 for prime in (2, 3)] + ["x", POINT]

        def name():
            return names[mixer.below(len(names))]

        for _ in range(12):
            desk, model = Desk(), Model()
            for _ in range(120):
                word = ("lay", "lay", "lay", "drop", "names", "show", "pieces", "alike", "leadings", "turn", "turn", "beside",
                        "kinds", "bars", "undo", "undo")[mixer.below(16)]
                words = {"lay": [name(), texts[mixer.below(len(texts))]], "names": [], "undo": [],
                         "turn": [name(), str(mixer.below(4)), name()], "alike": [name(), name()],
                         "leadings": [name(), name()], "beside": [name(), name(), name()]}.get(word, [name()])
                if word == "beside" and any(max(model.kept[k].sizes) > 6 for k in words[:2] if k in model.kept):
                    continue
                answers = []
                for call in (lambda: desk.tell(" ".join([word] + words)), lambda: model.tell([word] + words)):
                    try:
                        answers.append(call())
                    except errors.WebError as error:
                        answers.append((error.__class__, vars(error)))
                self.assertEqual(answers[0], answers[1])
            self.assertEqual(whole(desk)[0], model.tell(["names"]))
            while model.older:
                self.assertEqual(desk.tell("undo"), model.tell(["undo"]))
                self.assertEqual(whole(desk)[1], [text_of(model.kept[k]) for k in sorted(model.kept)])
            self.raises("NothingDone", desk.tell, "undo")

    def test_plain_and_nought_tables(self):
        desk = desk_with(p=Picture(line(">"), 7, (6, 6), (plain(7, 6),)), n=Picture(line(">"), 7, (6, 6), (nought(7, 6, 6),)))
        self.assertEqual(desk.tell("alike p n"), "no")
        self.assertEqual((desk.tell("leadings p n"), desk.tell("leadings n p"), desk.tell("leadings p p")), ("36", "36", "36"))
        self.assertEqual((desk.tell("bars p"), desk.tell("bars n")), ("0-1:6", "0-0:6 1-1:6"))


if __name__ == "__main__":
    unittest.main()
