"""The refusals: [2] and the interface's row of errors.py."""

import unittest

from thingwires import errors

FIELDS = {
    "NoSchema": ("path", "why"),
    "NoText": ("text",),
    "NoThing": ("path", "why"),
    "NoTurn": ("path", "why"),
    "NoBytes": ("why",),
    "NoQuestion": ("at",),
    "NoEdition": ("edition",),
    "NoWire": ("wire",),
    "NoMeeting": ("edition", "path", "why"),
    "NoLine": ("at", "why"),
}


class Unshowable:
    def __repr__(self):
        raise RuntimeError("not to be shown")

    __str__ = __repr__


class TestErrors(unittest.TestCase):
    def test_wire_error_stands_straight_under_value_error(self):
        self.assertEqual(errors.WireError.__bases__, (ValueError,))

    def test_each_stands_straight_under_wire_error(self):
        for name in FIELDS:
            self.assertEqual(getattr(errors, name).__bases__, (errors.WireError,), name)

    def test_fields_by_their_places(self):
        for name, fields in FIELDS.items():
            worths = [object() for _ in fields]
            error = getattr(errors, name)(*worths)
            for field, worth in zip(fields, worths):
                self.assertIs(getattr(error, field), worth, (name, field))

    def test_fields_by_their_names(self):
        for name, fields in FIELDS.items():
            worths = {field: object() for field in fields}
            error = getattr(errors, name)(**worths)
            for field, worth in worths.items():
                self.assertIs(getattr(error, field), worth, (name, field))

    def test_all_fields_are_needed_and_no_more(self):
        for name, fields in FIELDS.items():
            with self.assertRaises(TypeError):
                getattr(errors, name)(*[1] * (len(fields) - 1))
            with self.assertRaises(TypeError):
                getattr(errors, name)(*[1] * (len(fields) + 1))

    def test_any_object_may_be_borne(self):
        odd = Unshowable()
        self.assertIs(errors.NoText(odd).text, odd)
        self.assertIs(errors.NoEdition(odd).edition, odd)

    def test_there_are_no_other_classes(self):
        classes = {name for name, thing in vars(errors).items() if isinstance(thing, type)}
        self.assertEqual(classes, {"WireError", *FIELDS})


if __name__ == "__main__":
    unittest.main()
