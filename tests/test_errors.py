"""The errors of the interface: their names, their base classes and their fields."""

import unittest

from buildroom import errors

FIELDS = {
    "BadPath": (), "BadFolder": (), "BadWords": (), "BadTree": ("index",), "Clash": (), "Full": (), "Absent": (),
    "BadRules": ("index",), "BadBook": (), "BadRule": (), "BadMade": (), "BadRecord": (), "BadBooks": ("index",),
    "BadAims": (), "BadWay": (), "BadStep": (), "BadSteps": ("index",), "BadShop": (), "BadRow": (),
    "BadNumber": ("n",), "BadShelf": (), "BadRequests": ("index",), "BadThings": (), "BadLength": (),
    "BadPlan": ("index",), "BadMachines": (), "BadRoom": (), "BadOrder": (), "BadSlots": (), "BadState": (),
    "TooManyStates": ("most",), "InvalidText": ("line", "word"), "NoText": (), "BadEdits": ("index",),
    "BadSeen": ("index",), "BadMost": (), "BadEntries": ("index",), "BadKind": (), "BadLengths": (),
}


class Errors(unittest.TestCase):
    def test_the_base_class_is_a_value_error(self):
        self.assertEqual(errors.RoomError.__bases__, (ValueError,))

    def test_just_these_errors_stand_there(self):
        there = {name for name, thing in vars(errors).items() if isinstance(thing, type)}
        self.assertEqual(there, set(FIELDS) | {"RoomError"})

    def test_each_stands_directly_under_the_base_class(self):
        for name in FIELDS:
            with self.subTest(name):
                self.assertEqual(getattr(errors, name).__bases__, (errors.RoomError,))
                self.assertEqual(getattr(errors, name).__module__, "buildroom.errors")

    def test_each_has_just_its_fields(self):
        for name, fields in FIELDS.items():
            with self.subTest(name):
                told = dict(zip(fields, (7, 3)))
                self.assertEqual(vars(getattr(errors, name)(*told.values())), told)
                self.assertEqual(vars(getattr(errors, name)(**told)), told)

    def test_an_index_may_be_none(self):
        for name, fields in FIELDS.items():
            if fields == ("index",):
                with self.subTest(name):
                    self.assertIsNone(getattr(errors, name)(None).index)

    def test_each_is_caught_by_both_bases(self):
        for name, fields in FIELDS.items():
            for base in (errors.RoomError, ValueError):
                with self.subTest(name), self.assertRaises(base):
                    raise getattr(errors, name)(*(1, 2)[:len(fields)])


if __name__ == "__main__":
    unittest.main()
