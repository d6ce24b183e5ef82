"""The errors of the interface: their names, bases and fields."""

import inspect
import unittest

from roletalks import errors
from tests.support import TalkCase

FIELDS = {
    "BadScript": ("index",), "BadPart": ("index",), "BadCast": ("index",), "BadActor": (), "BadScene": (),
    "BadNumber": (), "BadTalks": ("index",), "BadEvents": ("index",), "BadRow": ("index",), "BadNames": (),
    "BadBranch": (), "NotMade": (), "TooMany": ("most",), "NotText": (), "InvalidText": ("line", "word"),
    "NothingToUndo": (), "NothingToRedo": (),
}


class ErrorTest(TalkCase):
    def test_the_base_class_is_a_value_error(self):
        self.assertEqual(errors.TalkError.__bases__, (ValueError,))

    def test_all_errors_are_there_and_no_others(self):
        found = [name for name, value in vars(errors).items() if inspect.isclass(value)]
        self.assertEqual(sorted(found), sorted(["TalkError", *FIELDS]))

    def test_each_error_is_a_direct_subclass_defined_here(self):
        for name in FIELDS:
            error = getattr(errors, name)
            self.assertEqual(error.__bases__, (errors.TalkError,), name)
            self.assertEqual(error.__module__, "roletalks.errors", name)

    def test_each_error_keeps_its_fields(self):
        for name, fields in FIELDS.items():
            values = [7 + at for at in range(len(fields))]
            error = getattr(errors, name)(*values)
            self.assertEqual(vars(error), dict(zip(fields, values)), name)

    def test_fields_may_be_given_by_name(self):
        for name, fields in FIELDS.items():
            if fields:
                error = getattr(errors, name)(**{field: 3 for field in fields})
                self.assertEqual(vars(error), {field: 3 for field in fields}, name)

    def test_an_index_may_be_none(self):
        for name, fields in FIELDS.items():
            if fields == ("index",):
                self.assertIsNone(getattr(errors, name)(None).index)


if __name__ == "__main__":
    unittest.main()
