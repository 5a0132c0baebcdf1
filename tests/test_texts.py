"""13.1: pictures written out, and read back; e11."""

import re
import unittest

from mapwebs import errors
from mapwebs.pictures import Picture, beside
from mapwebs.tables import Table, nought, plain
from mapwebs.texts import picture_text, read_picture
from mapwebs.webs import Web, line
from samples import PRIMES, Checks, Mixer, far_numbers
from test_pictures import FORK, RING, mixed_picture, more_odd_things, some_webs

NUMBER = r"(?:0|[1-9][0-9]{0,8})"
ODD_LINES = ["", " ", "table", "table ", "tables", "-", "- -", "--", "0", "1", "1 ", " 1", "1  1", "01", "00", "+1", "-1",
             "1.0", "1,1", "x", "1_0", "0x1", "1234567890", "0123456789", "prime", "prime 2 ", "prime  2", " prime 2",
             "Prime 2", "prime 02", "prime +2", "prime -2", "prime 2 2", "prime2", "places", "places ", "places 1 1",
             "places 0x1", "arrow", "arrow 0", "arrow 0 1 2", "arrow 0  1", "arrow 0 1 ", "arrow  0 1", "arrow 00 1",
             "arrow -1 0", "arrow 0 1234567890", "arrows 0 1", "sizes", "sizes ", "sizes  1", "sizes 1 ", "sizes 01",
             "sizes -", "sizes -1", "size 1", "none", "|", "prime 1234567890", "places 01", "places +1"]


def wrong_line(text):
    """The line that BadText tells, None for a text of the form, found by patterns alone."""
    lines = text.split("\n")
    due = [r"prime %s" % NUMBER, r"places %s" % NUMBER]
    at = 0

    def take(pattern):
        nonlocal at
        if at == len(lines) - 1:
            raise Wrong(len(lines))
        if not re.fullmatch(pattern, lines[at]):
            raise Wrong(at + 1)
        at += 1
        return [int(word) for word in lines[at - 1].split() if word.isdigit()]

    try:
        for pattern in due:
            take(pattern)
        arrows = []
        while lines[at].startswith("arrow ") or lines[at] == "arrow":
            arrows.append(take(r"arrow %s %s" % (NUMBER, NUMBER)))
        sizes = dict(enumerate(take(r"sizes(?: %s)+" % NUMBER)))
        for begin, end in arrows:
            take("table")
            wide = sizes.get(begin, 0)
            pattern = "-" if wide == 0 else NUMBER + (" " + NUMBER) * (min(wide, 5000) - 1)
            for _ in range(sizes.get(end, 0)):
                take(pattern)
        if at < len(lines) - 1:
            return at + 1
        return len(lines) if lines[-1] else None
    except Wrong as wrong:
        return wrong.args[0]


class Wrong(Exception):
    pass


def some_pictures():
    mixer = Mixer(250)
    found = []
    for prime in PRIMES:
        for web in some_webs():
            for most in (0, 1, 6):
                found.append(mixed_picture(mixer, web, prime, most))
    for sizes in ((0, 3), (3, 0), (0, 0), (6, 6), (1, 0)):
        found.append(mixed_picture(mixer, line(">"), 13, sizes=sizes))
        found.append(mixed_picture(mixer, RING, 11, sizes=sizes))
    return found


class Written(Checks, unittest.TestCase):

    def test_word_for_word(self):
        picture = Picture(Web(3, ((0, 1), (2, 1), (2, 2))), 13, (2, 2, 0),
                          (Table(13, 2, ((1, 12), (0, 5))), nought(13, 2, 0), nought(13, 0, 0)))
        text = "prime 13\nplaces 3\narrow 0 1\narrow 2 1\narrow 2 2\nsizes 2 2 0\ntable\n1 12\n0 5\ntable\n-\n-\ntable\n"
        self.assertEqual(self.same_twice(picture_text, picture), text)
        self.assertEqual(picture_text(Picture(Web(1, ()), 2, (0,), ())), "prime 2\nplaces 1\nsizes 0\n")
        self.assertEqual(picture_text(Picture(Web(2, ()), 7, (3, 6), ())), "prime 7\nplaces 2\nsizes 3 6\n")
        self.assertEqual(picture_text(Picture(line("<"), 2, (0, 2), (nought(2, 0, 2),))),
                         "prime 2\nplaces 2\narrow 1 0\nsizes 0 2\ntable\n")

    def test_back_and_forth(self):
        for picture in some_pictures():
            text = self.same_twice(picture_text, picture)
            self.assertIs(text.__class__, str)
            self.assertIsNone(wrong_line(text))
            self.assertEqual(self.same_twice(read_picture, text), picture)
            self.assertEqual(picture_text(read_picture(text)), text)

    def test_e11(self):
        picture = Picture(line(">"), 2, (2, 1), (Table(2, 2, ((1, 0),)),))
        text = "prime 2\nplaces 2\narrow 0 1\nsizes 2 1\ntable\n1 0\n"
        self.assertEqual(picture_text(picture), text)
        self.assertEqual(read_picture(text), picture)

    def test_what_is_read_is_a_picture_like_others(self):
        picture = read_picture("prime 3\nplaces 2\narrow 0 1\nsizes 1 2\ntable\n1\n2\n")
        self.assertEqual((picture.web, picture.prime, picture.sizes), (line(">"), 3, (1, 2)))
        self.assertEqual(picture.tables, (Table(3, 1, ((1,), (2,))),))
        self.assertEqual([item.__class__ for item in (picture.sizes, picture.tables, picture.prime, picture.sizes[0])],
                         [tuple, tuple, int, int])

    def test_sizes_beyond_the_bounds(self):
        whole = beside(line(">"), 2, [Picture(line(">"), 2, (6, 6), (plain(2, 6),))] * 2)
        text = picture_text(whole)
        self.assertEqual(text.split("\n")[3:6], ["sizes 12 12", "table", "1" + " 0" * 11])
        self.assertIsNone(wrong_line(text))
        self.raises("BadPicture", read_picture, text, part="sizes")
        empty = beside(FORK, 2, ())
        self.assertEqual(read_picture(picture_text(empty)), empty)


class Broken(Checks, unittest.TestCase):

    def setUp(self):
        mixer = Mixer(251)
        self.texts = [picture_text(mixed_picture(mixer, web, prime, sizes=sizes)) for web, prime, sizes in (
            (Web(1, ()), 2, (3,)), (line(">"), 3, (2, 3)), (line("<>"), 13, (2, 0, 1)), (RING, 11, (1, 2)), (RING, 2, (0, 2)))]

    def judged(self, text):
        """As the patterns judge the text, so does read_picture."""
        line_told = wrong_line(text)
        if line_told is not None:
            self.raises("BadText", read_picture, text, line=line_told)
            return
        try:
            self.assertEqual(picture_text(read_picture(text)), text)
        except (errors.BadWeb, errors.BadPicture):
            pass

    def test_each_line_broken_in_turn(self):
        for text in self.texts:
            lines = text.split("\n")[:-1]
            for at in range(len(lines)):
                kept = [line_of for line_of in lines]
                for odd in ODD_LINES + [lines[at] + " ", " " + lines[at], lines[at] + " 1", lines[at] + "x",
                                        lines[at].replace(" ", "  ", 1), lines[at][:-1], lines[at].upper(), lines[at] + "|",
                                        lines[at].replace(" ", " 0", 1), lines[at].replace(" ", " +", 1)]:
                    broken = "\n".join(kept[:at] + [odd] + kept[at + 1:]) + "\n"
                    self.judged(broken)
                    if odd in ("", " ", "x", "prime", "arrow 0", "01", "1  1", "sizes ", "table ", "1234567890"):
                        self.raises("BadText", read_picture, broken, line=at + 1)
                self.judged("\n".join(kept[:at] + kept[at + 1:]) + "\n")
                self.judged("\n".join(kept[:at] + ["table"] + kept[at:]) + "\n")
                self.judged("\n".join(kept[:at] + [""] + kept[at:]) + "\n")
                self.judged("\n".join(kept[:at] + [kept[at]] + kept[at:]) + "\n")
                self.judged("\n".join(kept[:at]) + "\n")
                self.judged("\n".join(kept[:at]))

    def test_each_sign_left_out_or_put_in(self):
        for text in self.texts:
            for at in range(len(text) + 1):
                self.judged(text[:at])
                self.judged(text[:at] + text[at + 1:])
                for sign in " \n0-1a|":
                    self.judged(text[:at] + sign + text[at:])

    def test_no_string(self):
        for thing in more_odd_things() + far_numbers():
            if not isinstance(thing, str):
                self.raises("BadText", read_picture, thing, line=0)
        for thing in (b"prime 2\nplaces 1\nsizes 0\n", ["prime 2\n"], ("prime 2\nplaces 1\nsizes 0\n",)):
            self.raises("BadText", read_picture, thing, line=0)

    def test_what_lacks_or_stands_behind(self):
        text = "prime 2\nplaces 2\narrow 0 1\nsizes 1 2\ntable\n1\n0\n"
        self.assertIsNotNone(read_picture(text))
        self.raises("BadText", read_picture, "", line=1)
        self.raises("BadText", read_picture, "\n", line=1)
        self.raises("BadText", read_picture, "prime 2", line=1)
        self.raises("BadText", read_picture, "prime 2\n", line=2)
        self.raises("BadText", read_picture, "prime 2\nplaces 2", line=2)
        self.raises("BadText", read_picture, "prime 2\nplaces 2\n", line=3)
        self.raises("BadText", read_picture, "prime 2\nplaces 2\narrow 0 1\n", line=4)
        self.raises("BadText", read_picture, "prime 2\nplaces 2\narrow 0 1\nsizes 1 2\n", line=5)
        self.raises("BadText", read_picture, text[:-1], line=7)
        self.raises("BadText", read_picture, text[:-2], line=7)
        self.raises("BadText", read_picture, text[:-3], line=6)
        self.raises("BadText", read_picture, text + "\n", line=8)
        self.raises("BadText", read_picture, text + "0\n", line=8)
        self.raises("BadText", read_picture, text + "0", line=8)
        self.raises("BadText", read_picture, text + "table\n\n\n", line=8)
        self.raises("BadText", read_picture, text + text, line=8)
        self.raises("BadText", read_picture, text + " ", line=8)
        # A line broken ahead is told ahead of what stands behind.
        self.raises("BadText", read_picture, text.replace("table", "tables") + "x", line=5)
        self.raises("BadText", read_picture, "Prime 2\nplaces 2", line=1)
        self.raises("BadText", read_picture, "x\n" * 50 + "x", line=1)

    def test_figures(self):
        for word, right in (("0", True), ("7", True), ("999999999", True), ("1000000000", False), ("00", False),
                            ("07", False), ("000000001", False), ("", False), ("+1", False), ("-0", False), ("1e3", False)):
            for at, text in ((1, "prime %s\nplaces 1\nsizes 0\n"), (2, "prime 2\nplaces %s\nsizes 0\n"),
                             (3, "prime 2\nplaces 1\narrow %s 0\nsizes 0\ntable\n"), (3, "prime 2\nplaces 1\nsizes %s\n"),
                             (3, "prime 2\nplaces 1\narrow 0 %s\nsizes 0\ntable\n"),
                             (6, "prime 2\nplaces 1\narrow 0 0\nsizes 1\ntable\n%s\n")):
                if right:
                    self.judged(text % word)
                else:
                    self.raises("BadText", read_picture, text % word, line=at)

    def test_numbers_far_beyond_what_stands_there(self):
        head = "prime 2\nplaces 2\narrow 0 1\n"
        self.raises("BadText", read_picture, head + "sizes 1 999999999\ntable\n", line=6)
        self.raises("BadText", read_picture, head + "sizes 1 999999999\ntable\n" + "0\n" * 5000, line=5006)
        self.raises("BadText", read_picture, head + "sizes 999999999 1\ntable\n1 1\n", line=6)
        self.raises("BadText", read_picture, head + "sizes 0 3\ntable\n-\n-\n", line=8)
        self.raises("BadText", read_picture, head + "sizes 999999999 1\ntable\n-\n", line=6)
        # Sizes that are not told count as 0, wherever the arrow leads.
        self.raises("BadPicture", read_picture, head + "sizes 1\ntable\n", part="sizes")
        self.raises("BadText", read_picture, head + "sizes 1\ntable\n0\n", line=6)
        self.raises("BadWeb", read_picture, "prime 2\nplaces 2\narrow 7 1\nsizes 1 1\ntable\n-\n", part=0)
        self.raises("BadText", read_picture, "prime 2\nplaces 2\narrow 7 1\nsizes 1 1\ntable\n0\n", line=6)
        self.raises("BadWeb", read_picture, "prime 2\nplaces 1\narrow 999999999 0\nsizes 0\ntable\n", part=0)
        many = "prime 2\nplaces 1\n" + "arrow 0 0\n" * 1200 + "sizes 0\n"
        self.raises("BadWeb", read_picture, many + "table\n" * 1200, part="arrows")
        self.raises("BadText", read_picture, many + "table\n" * 1199, line=2403)
        self.raises("BadText", read_picture, many + "table\n" * 1201, line=2404)
        self.raises("BadPicture", read_picture, "prime 2\nplaces 1\nsizes" + " 0" * 9000 + "\n", part="sizes")

    def test_bad_web_then_bad_picture(self):
        self.raises("BadWeb", read_picture, "prime 4\nplaces 0\nsizes 7\n", part="many")
        self.raises("BadWeb", read_picture, "prime 4\nplaces 9\nsizes 7\n", part="many")
        self.raises("BadWeb", read_picture, "prime 4\nplaces 9\n" + "arrow 0 0\n" * 13 + "sizes 0\n" + "table\n" * 13,
                    part="many")
        self.raises("BadWeb", read_picture, "prime 4\nplaces 1\n" + "arrow 0 1\n" * 13 + "sizes 0\n" + "table\n" * 13,
                    part="arrows")
        for at in range(4):
            arrows = "arrow 0 1\n" * at + "arrow 1 2\n" * (4 - at)
            self.raises("BadWeb", read_picture, "prime 4\nplaces 2\n" + arrows + "sizes 7\n" + "table\n" * 4, part=at)
        for prime in ("0", "1", "4", "9", "14", "17", "999999999"):
            self.raises("BadPicture", read_picture, "prime %s\nplaces 1\nsizes 7\n" % prime, part="prime")
            self.raises("BadPicture", read_picture, "prime %s\nplaces 1\narrow 0 0\nsizes 1\ntable\n0\n" % prime, part="prime")
        for sizes in ("7", "1 1", "0 0", "999999999", "12"):
            self.raises("BadPicture", read_picture, "prime 2\nplaces 1\nsizes %s\n" % sizes, part="sizes")
        self.raises("BadPicture", read_picture, "prime 2\nplaces 2\nsizes 1\n", part="sizes")
        for size in (7, 13):
            text = "prime 2\nplaces 2\narrow 1 0\nsizes 1 %d\ntable\n%s\n" % (size, " ".join("5" * size))
            self.raises("BadPicture", read_picture, text, part="sizes")
            text = "prime 2\nplaces 2\narrow 0 1\nsizes 1 %d\ntable\n%s" % (size, "0\n" * size)
            self.raises("BadPicture", read_picture, text, part="sizes")
        text = "prime 3\nplaces 2\narrow 0 1\narrow 0 1\narrow 1 1\nsizes 2 1\ntable\n%s\ntable\n%s\ntable\n%s\n"
        for at in range(3):
            for worth in ("3", "999999999"):
                for later in ("0", worth):
                    words = ["1 2", "0 0", "2"][:at] + ([worth] if at == 2 else ["0 " + worth])
                    words += [later if k == 2 else later + " 0" for k in range(at + 1, 3)]
                    self.raises("BadPicture", read_picture, text % tuple(words), part=at)
        self.assertEqual(read_picture(text % ("1 2", "0 0", "2")).tables[2].rows, ((2,),))


if __name__ == "__main__":
    unittest.main()
