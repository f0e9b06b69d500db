"""DOC.md, the heading allendless/errors.py, and [1]."""

import unittest

from allendless import errors

FIELDS = {
    "TooGreat": ("what",), "BadText": ("position",), "BadTerm": ("path", "word"), "NotThere": ("path",), "WrongKind": (),
    "OutOfRange": ("number",), "BadNumber": ("number",), "NotSearchable": ("kind",), "NoSign": ("number",),
    "BadSide": ("side",), "BadName": ("name",), "NameTaken": ("name",), "Unknown": ("name",), "NothingDefined": (),
    "NothingToUndo": (), "NothingToRedo": (),
}
VALUES = {
    "what": "text", "position": (1, 2), "path": (0, 1), "word": "kind", "number": -3, "kind": ("num",), "side": "chance",
    "name": "x",
}


class ErrorsTest(unittest.TestCase):
    def test_there_are_sixteen(self):
        self.assertEqual(len(FIELDS), 16)
        found = [name for name in vars(errors) if isinstance(getattr(errors, name), type)]
        self.assertEqual(sorted(found), sorted([*FIELDS, "AllendlessError"]))

    def test_base(self):
        self.assertEqual(errors.AllendlessError.__bases__, (ValueError,))
        for name in FIELDS:
            self.assertEqual(getattr(errors, name).__bases__, (errors.AllendlessError,))

    def test_fields_by_position_and_by_name(self):
        for name, fields in FIELDS.items():
            values = [VALUES[field] for field in fields]
            made = [getattr(errors, name)(*values), getattr(errors, name)(**dict(zip(fields, values)))]
            for error in made:
                self.assertEqual([getattr(error, field) for field in fields], values)

    def test_fields_are_wanted(self):
        for name, fields in FIELDS.items():
            with self.assertRaises(TypeError):
                getattr(errors, name)(**{"what": 1, "more": 2})

    def test_raised_and_caught(self):
        for name, fields in FIELDS.items():
            with self.assertRaises(ValueError) as caught:
                raise getattr(errors, name)(*[VALUES[field] for field in fields])
            self.assertEqual(type(caught.exception).__name__, name)
            self.assertIsInstance(str(caught.exception), str)


if __name__ == "__main__":
    unittest.main()
