"""0.3 and the interface of mapwebs/errors.py."""

import inspect
import pickle
import unittest

from mapwebs import errors
from samples import ERROR_FIELDS, nested, odd_things


class Errors(unittest.TestCase):

    def test_web_error_is_a_value_error(self):
        self.assertEqual(errors.WebError.__bases__, (ValueError,))

    def test_just_these_33_classes(self):
        found = [name for name, thing in vars(errors).items() if inspect.isclass(thing)]
        self.assertEqual(sorted(found), sorted(list(ERROR_FIELDS) + ["WebError"]))
        self.assertEqual(len(ERROR_FIELDS), 33)

    def test_each_derives_directly_from_web_error(self):
        for name in ERROR_FIELDS:
            kind = getattr(errors, name)
            self.assertEqual(kind.__bases__, (errors.WebError,), name)
            self.assertEqual(kind.__module__, "mapwebs.errors")

    def test_fields_keep_the_very_objects(self):
        deep = nested(lambda x: [x], 100000)
        for name, fields in ERROR_FIELDS.items():
            for thing in odd_things() + [deep, 1.5, {1, 2}]:
                values = [thing, [thing]][:len(fields)]
                error = getattr(errors, name)(*values)
                self.assertEqual(sorted(vars(error)), sorted(fields), name)
                for field, value in zip(fields, values):
                    self.assertIs(getattr(error, field), value)
        while deep:
            deep = deep[0]

    def test_made_with_just_these(self):
        for name, fields in ERROR_FIELDS.items():
            for many in range(4):
                if many != len(fields):
                    with self.assertRaises(TypeError, msg=name):
                        getattr(errors, name)(*range(many))

    def test_raised_and_caught_by_each_of_its_classes(self):
        for name, fields in ERROR_FIELDS.items():
            kind = getattr(errors, name)
            for base in (kind, errors.WebError, ValueError):
                with self.assertRaises(base):
                    raise kind(*range(len(fields)))

    def test_they_can_be_copied_and_shown(self):
        for name, fields in ERROR_FIELDS.items():
            error = getattr(errors, name)(*[(1, "a")] * len(fields))
            again = pickle.loads(pickle.dumps(error))
            self.assertIs(again.__class__, error.__class__)
            self.assertEqual(vars(again), vars(error))
            self.assertIsInstance(str(error), str)


if __name__ == "__main__":
    unittest.main()
