"""Tests of the errors [4], [20]."""

import inspect
import unittest

import oldletters.errors as errors
from oldletters.errors import OldError
from tests.samples import odd_values

FIELDS = {
    "IsAsked": "worker", "IsKept": "index", "IsSteady": "worker", "Last": None, "ManyShown": "many",
    "NoCommand": None, "NoEnd": "box", "NoKnot": "knot", "NoLetter": "letter", "NoMoment": "index",
    "NoName": "name", "NoPlace": "place", "NoRound": "index", "NoRows": "fault", "NoState": "state",
    "NoText": "line", "NotShown": "moment", "NoWay": "vector", "NoWorker": "worker", "Nothing": None,
    "TooMany": "most", "Unlike": None, "Wrong": "place",
}


class Errors(unittest.TestCase):
    def test_just_these_classes(self):
        found = [name for name, thing in vars(errors).items() if inspect.isclass(thing)]
        self.assertEqual(sorted(found), sorted(list(FIELDS) + ["OldError"]))

    def test_bases(self):
        self.assertEqual(OldError.__bases__, (ValueError,))
        for name in FIELDS:
            self.assertEqual(getattr(errors, name).__bases__, (OldError,), name)

    def test_signatures(self):
        for name, field in FIELDS.items():
            names = list(inspect.signature(getattr(errors, name)).parameters)
            self.assertEqual(names, [field] if field else [], name)

    def test_keeps_the_very_object(self):
        for name, field in FIELDS.items():
            if field:
                for thing in odd_values():
                    error = getattr(errors, name)(thing)
                    self.assertIs(getattr(error, field), thing)

    def test_keeps_what_is_changed_later(self):
        for name, field in FIELDS.items():
            if field:
                thing = [1, {"a": []}]
                error = getattr(errors, name)(thing)
                thing[1]["a"].append(2)
                thing.append(3)
                self.assertIs(getattr(error, field), thing)
                self.assertEqual(getattr(error, field), [1, {"a": [2]}, 3])

    def test_wrong_number_of_arguments(self):
        for name, field in FIELDS.items():
            made = getattr(errors, name)
            with self.assertRaises(TypeError, msg=name):
                made(*((1, 2) if field else (1,)))
            if field:
                with self.assertRaises(TypeError, msg=name):
                    made()
            else:
                made()

    def test_is_raised_and_caught(self):
        for name, field in FIELDS.items():
            with self.assertRaises(ValueError):
                raise getattr(errors, name)(*([None] if field else []))


if __name__ == "__main__":
    unittest.main()
