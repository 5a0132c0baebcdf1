"""12.1: strangers' tables asked column by column."""

import unittest
from itertools import product

from mapwebs.pictures import Picture
from mapwebs.strangers import is_refuted, picture_asked, refuted
from mapwebs.tables import Table, led, nought
from mapwebs.webs import Web, line
from samples import PRIMES, Checks, Mixer, columns, far_numbers
from test_pictures import mixed_picture, more_odd_things, some_webs

RING = Web(2, ((0, 1), (1, 0), (1, 1)))


class Asker:
    """Tells what a picture's tables do, some answers changed; keeps what it was asked."""

    def __init__(self, picture, changed=()):
        self.picture = picture
        self.changed = dict(changed)
        self.asked = []

    def __call__(self, arrow, column):
        self.asked.append((arrow, column))
        if (arrow, column) in self.changed:
            return self.changed[arrow, column]
        return led(self.picture.tables[arrow], column)


class Unlucky(Exception):
    pass


def all_asks(picture):
    """All columns that are to be asked, by arrows, then ascending."""
    return [(arrow, column) for arrow, (begin, end) in enumerate(picture.web.arrows)
            for column in columns(picture.prime, picture.sizes[begin])]


def some_pictures():
    """Pictures with at least one arrow and not too many columns, of each prime."""
    mixer = Mixer(240)
    found = []
    for prime in PRIMES:
        for web in (line(">"), line("<>"), RING, Web(1, ((0, 0),)), Web(2, ((0, 1), (0, 1)))):
            found.append(mixed_picture(mixer, web, prime, 2 if prime > 3 else 3))
    return found


def arguments(picture):
    return picture.web, picture.prime, picture.sizes


class Right(Checks, unittest.TestCase):

    def test_told_of_a_right_picture(self):
        for picture in some_pictures():
            asker = Asker(picture)
            self.assertIsNone(refuted(*arguments(picture), asker))
            self.assertEqual(sorted(set(asker.asked)), all_asks(picture))
            asker = Asker(picture)
            found = picture_asked(*arguments(picture), asker)
            self.assertEqual(found, picture)
            self.assertEqual(sorted(set(asker.asked)), all_asks(picture))
            for arrow, one in all_asks(picture)[::5]:
                for number, other in all_asks(picture)[::7]:
                    if number == arrow:
                        self.assertIs(is_refuted(*arguments(picture), asker, (arrow, one, other)), False)

    def test_no_arrows_and_sizes_of_nought(self):
        for prime in PRIMES:
            for many in (1, 3, 8):
                web = Web(many, ())
                picture = Picture(web, prime, (6,) * many, ())
                self.assertIsNone(refuted(web, prime, (6,) * many, None))
                self.assertEqual(picture_asked(web, prime, (6,) * many, None), picture)
                self.assertIs(is_refuted(web, prime, (6,) * many, None, (0, (), ())), False)
            for web in some_webs():
                picture = Picture(web, prime, (0,) * web.many, (nought(prime, 0, 0),) * len(web.arrows))
                asker = Asker(picture)
                self.assertIsNone(refuted(*arguments(picture), asker))
                self.assertEqual(picture_asked(*arguments(picture), asker), picture)
            for sizes in ((0, 2), (2, 0)):
                picture = Picture(line(">"), prime, sizes, (nought(prime, sizes[1], sizes[0]),))
                self.assertEqual(picture_asked(*arguments(picture), Asker(picture)), picture)
                self.assertIsNone(refuted(*arguments(picture), Asker(picture)))

    def test_the_answer_holds_tables_of_its_own(self):
        picture = some_pictures()[1]
        found = self.same_twice(picture_asked, *arguments(picture), Asker(picture).__call__)
        self.assertIsInstance(found, Picture)
        for table in found.tables:
            self.assertIsInstance(table, Table)
            self.assertEqual(vars(table).keys(), vars(picture.tables[0]).keys())


class Refuted(Checks, unittest.TestCase):

    def check(self, picture, asker):
        """The triple that is told shows that no table leads so; no picture is told."""
        found = refuted(*arguments(picture), asker)
        self.assertIsInstance(found, tuple)
        arrow, one, other = found
        self.assertIs(arrow.__class__, int)
        both = tuple((x + y) % picture.prime for x, y in zip(one, other))
        for column in (one, other, both):
            self.assertIn((arrow, column), all_asks(picture))
        answers = [asker(arrow, column) for column in (one, other, both)]
        self.assertNotEqual(tuple((x + y) % picture.prime for x, y in zip(*answers[:2])), answers[2])
        self.assertIs(is_refuted(*arguments(picture), asker, found), True)
        self.assertIsNone(picture_asked(*arguments(picture), asker))

    def test_a_single_answer_changed(self):
        for picture in some_pictures():
            if picture.prime > 7:
                continue
            for arrow, column in all_asks(picture)[::4]:
                answer = led(picture.tables[arrow], column)
                for at in range(len(answer)):
                    changed = answer[:at] + ((answer[at] + 1) % picture.prime,) + answer[at + 1:]
                    asker = Asker(picture, {(arrow, column): changed})
                    if picture.prime > 2 or len(column) > 1 or not any(column):
                        self.check(picture, asker)
                    else:
                        # Of one worth modulo 2 any table may lead the single other column anywhere.
                        self.assertIsNone(refuted(*arguments(picture), asker))

    def test_each_function_of_few_columns(self):
        for prime, sizes in ((2, (2, 1)), (2, (1, 2)), (3, (1, 1)), (2, (0, 2)), (2, (1, 1))):
            asks, answers = columns(prime, sizes[0]), columns(prime, sizes[1])
            tables = [{column: tuple(led(table, column)) for column in asks}
                      for table in [Table(prime, sizes[0], rows) for rows in
                                    product(asks, repeat=sizes[1])]]
            for told in product(answers, repeat=len(asks)):
                told = dict(zip(asks, told))
                asker = lambda arrow, column: told[column]
                found = refuted(line(">"), prime, sizes, asker)
                picture = picture_asked(line(">"), prime, sizes, asker)
                self.assertEqual(found is None, told in tables)
                self.assertEqual(picture is None, found is not None)
                shown = []
                for one in asks:
                    for other in asks:
                        both = tuple((x + y) % prime for x, y in zip(one, other))
                        total = tuple((x + y) % prime for x, y in zip(told[one], told[other]))
                        shown.append(((0, one, other), total != told[both]))
                        self.assertIs(is_refuted(line(">"), prime, sizes, asker, (0, one, other)), total != told[both])
                self.assertEqual(found is None, not any(right for thing, right in shown))
                if found is not None:
                    self.assertIn((found, True), shown)
                else:
                    self.assertEqual([led(picture.tables[0], column) for column in asks], [told[k] for k in asks])

    def test_noughts_led_elsewhere(self):
        for prime in PRIMES:
            picture = Picture(line(">"), prime, (0, 1), (nought(prime, 1, 0),))
            self.check(picture, Asker(picture, {(0, ()): (1,)}))
            picture = Picture(line(">"), prime, (1, 1), (nought(prime, 1, 1),))
            always = Asker(picture, {(0, (worth,)): (1,) for worth in range(prime)})
            self.check(picture, always)

    def test_the_last_arrow_alone(self):
        mixer = Mixer(241)
        web = Web(3, ((0, 1), (1, 2), (2, 0), (0, 1)))
        for prime in (2, 3, 5):
            picture = mixed_picture(mixer, web, prime, sizes=(2, 1, 2))
            changed = Asker(picture, {(3, (0, 1)): (((led(picture.tables[3], (0, 1))[0] + 1) % prime),),
                                      (3, (1, 0)): led(picture.tables[3], (1, 0))})
            self.check(picture, changed)
            self.assertEqual(refuted(*arguments(picture), changed)[0], 3)


class Errors(Checks, unittest.TestCase):

    def three(self, asker):
        return [lambda web, prime, sizes: refuted(web, prime, sizes, asker),
                lambda web, prime, sizes: picture_asked(web, prime, sizes, asker),
                lambda web, prime, sizes: is_refuted(web, prime, sizes, asker, None)]

    def test_no_prime(self):
        for call in self.three(None):
            for thing in more_odd_things() + far_numbers() + [0, 1, 4, 14]:
                self.raises("NoPrime", call, line(">"), thing, (1, 1))
                self.raises("NoPrime", call, line(">"), thing, None)

    def test_no_sizes(self):
        wrong = [(), (1,), (1, 1, 1), [1, 1], (1, 7), (7, 1), (-1, 1), (1, True), (False, 1), (1, None), (1, "1"),
                 (1, (1,)), "11", {0: 1, 1: 1}, (10 ** 11, 1)]
        for call in self.three(None):
            for thing in wrong + more_odd_things() + far_numbers():
                self.raises("NoSizes", call, line(">"), 13, thing)

    def test_too_many(self):
        calls = []
        for call in self.three(lambda arrow, column: calls.append(arrow)):
            for web, prime, sizes in ((line(">"), 13, (4, 0)), (line(">"), 11, (4, 6)), (line("<"), 5, (0, 6)),
                                      (Web(1, ((0, 0),)), 7, (5,)), (Web(2, ((0, 1),) * 7), 3, (6, 1)),
                                      (Web(8, ((0, 1),) * 12), 13, (6,) * 8)):
                self.raises("TooMany", call, web, prime, sizes, most=5000)
        self.assertEqual(calls, [])

    def test_just_5000_columns(self):
        for web, prime, sizes, many in (
                (Web(2, ((0, 1),) * 8), 5, (4, 0), 5000), (Web(3, ((0, 1),) * 8 + ((2, 1),)), 5, (4, 0, 0), 5001),
                (Web(3, ((0, 1),) * 7 + ((2, 1),) * 5), 5, (4, 0, 3), 5000),
                (Web(4, ((0, 1),) * 7 + ((2, 1),) * 4 + ((3, 1),)), 5, (4, 0, 3, 3), 5000)):
            total = sum(prime ** sizes[begin] for begin, end in web.arrows)
            self.assertEqual(total, many)
            asker = lambda arrow, column: (0,) * sizes[web.arrows[arrow][1]]
            for call in self.three(asker):
                if total > 5000:
                    self.raises("TooMany", call, web, prime, sizes, most=5000)
                else:
                    call(web, prime, sizes)
            if total <= 5000:
                picture = Picture(web, prime, sizes, tuple(nought(prime, sizes[b], sizes[a]) for a, b in web.arrows))
                self.assertEqual(picture_asked(web, prime, sizes, asker), picture)

    def bad_answers(self, prime, size):
        found = [(0,) * (size + 1), (prime,) * size, (-1,) * size, [0] * size, (0,) * (size - 1) + (True,), "0" * size]
        return [answer for answer in found if size > 0 or answer != ()] + more_odd_things() + far_numbers()

    def test_bad_answers_of_one_column(self):
        picture = Picture(RING, 3, (2, 1), (nought(3, 1, 2), nought(3, 2, 1), nought(3, 1, 1)))
        for arrow, column in all_asks(picture):
            end = picture.sizes[picture.web.arrows[arrow][1]]
            for answer in self.bad_answers(3, end)[::3 if arrow else 1]:
                if answer == ((0,) if end == 1 else (0, 0)):
                    continue
                asker = Asker(picture, {(arrow, column): answer})
                for call in (refuted, picture_asked):
                    with self.subTest(answer=repr(answer)[:60]):
                        self.raises("BadAnswer", call, *arguments(picture), asker, arrow=arrow, column=column)

    def test_the_first_bad_answer(self):
        picture = Picture(RING, 3, (2, 1), (nought(3, 1, 2), nought(3, 2, 1), nought(3, 1, 1)))
        asks = all_asks(picture)
        for first in range(0, len(asks), 2):
            asker = Asker(picture, {ask: None for ask in asks[first:]})
            for call in (refuted, picture_asked):
                self.raises("BadAnswer", call, *arguments(picture), asker, arrow=asks[first][0], column=asks[first][1])
        # A wrong sum ahead of a bad answer does not hide it.
        asker = Asker(picture, {(0, (0, 0)): (1,), (2, (2,)): None})
        for call in (refuted, picture_asked):
            self.raises("BadAnswer", call, *arguments(picture), asker, arrow=2, column=(2,))

    def test_no_columns_at_all(self):
        picture = Picture(line(">"), 5, (2, 2), (nought(5, 2, 2),))
        for answer in (None, (), 0, [0, 0], (0, 0, 0), (0,)):
            for call in (refuted, picture_asked):
                self.raises("BadAnswer", call, *arguments(picture), lambda arrow, column: answer, arrow=0, column=(0, 0))

    def test_errors_of_askers_go_on(self):
        picture = Picture(line(">"), 2, (1, 1), (nought(2, 1, 1),))

        def asker(arrow, column):
            raise Unlucky()

        for call in (refuted, picture_asked):
            with self.assertRaises(Unlucky):
                call(*arguments(picture), asker)
        with self.assertRaises(Unlucky):
            is_refuted(*arguments(picture), asker, (0, (0,), (1,)))
        self.assertIs(is_refuted(*arguments(picture), asker, (0, (0,), (2,))), False)


class Judged(Checks, unittest.TestCase):

    def setUp(self):
        self.picture = Picture(RING, 3, (2, 1), (nought(3, 1, 2), nought(3, 2, 1), nought(3, 1, 1)))

    def test_things_that_are_none(self):
        asker = Asker(self.picture, {(0, (1, 1)): (1,)})
        self.assertIs(is_refuted(*arguments(self.picture), asker, (0, (1, 0), (0, 1))), True)
        asker.asked.clear()
        wrong = [(0, (1, 0)), (0, (1, 0), (0, 1), ()), [0, (1, 0), (0, 1)], (0, [1, 0], (0, 1)), (0, (1, 0), [0, 1]),
                 (1, (1, 0), (0, 1)), (3, (1, 0), (0, 1)), (-1, (1, 0), (0, 1)), (False, (1, 0), (0, 1)),
                 (0, (1, False), (0, 1)), (0, (1, 0), (0, True)), (0, (1, 0), (0, 3)), (0, (1, 0), (0, -1)),
                 (0, (1,), (0,)), (0, (1, 0, 0), (0, 1, 0)), (0, (1, 0), None), (0, None, (0, 1)), (None, (1, 0), (0, 1)),
                 ("0", (1, 0), (0, 1)), {0: 0, 1: (1, 0), 2: (0, 1)}, ((1, 0), (0, 1), 0), (10 ** 11, (1, 0), (0, 1))]
        for thing in wrong + more_odd_things() + far_numbers():
            self.assertIs(is_refuted(*arguments(self.picture), asker, thing), False)
            self.assertIs(is_refuted(*arguments(self.picture), asker, (0, thing, (0, 1))), False)
            self.assertIs(is_refuted(*arguments(self.picture), asker, (0, (0, 1), thing)), False)
            if thing != 0:
                self.assertIs(is_refuted(*arguments(self.picture), asker, (thing, (1, 0), (0, 1))), False)
        self.assertEqual(asker.asked, [])
        self.assertIs(is_refuted(*arguments(self.picture), asker, (0, (1, 0), (0, 0))), False)

    def test_bad_answers_of_just_its_columns(self):
        asks = all_asks(self.picture)
        for thing in ((0, (1, 0), (0, 1)), (0, (1, 2), (2, 2)), (1, (1,), (1,)), (2, (0,), (0,)), (2, (1,), (2,))):
            arrow, one, other = thing
            both = tuple((x + y) % 3 for x, y in zip(one, other))
            own = [(arrow, one), (arrow, other), (arrow, both)]
            others = {ask: None for ask in asks if ask not in own}
            self.assertIs(is_refuted(*arguments(self.picture), Asker(self.picture, others), thing), False)
            for bad in (own, own[1:], own[2:], own[:1], own[1:2]):
                first = [ask for ask in own if ask in bad][0]
                asker = Asker(self.picture, {ask: None for ask in bad})
                self.raises("BadAnswer", is_refuted, *arguments(self.picture), asker, thing, arrow=first[0], column=first[1])
            for answer in ((0, 0, 0), (3,), [0], (True,), None):
                asker = Asker(self.picture, {own[0]: answer})
                self.raises("BadAnswer", is_refuted, *arguments(self.picture), asker, thing, arrow=arrow, column=one)

    def test_errors_ahead_of_the_thing(self):
        for thing in more_odd_things() + [(0, (1, 0), (0, 1))]:
            self.raises("NoPrime", is_refuted, RING, 4, (2, 1), None, thing)
            self.raises("NoSizes", is_refuted, RING, 3, (2, 7), None, thing)
            self.raises("TooMany", is_refuted, RING, 13, (6, 1), None, thing, most=5000)


if __name__ == "__main__":
    unittest.main()
