"""The errors: their classes and fields."""

import unittest

from lotplans import errors

FIELDS = {
    "BadProblem": ("part", "index"), "BadPeriod": (), "BadPlan": ("index",), "BadStarts": (), "NotText": (),
    "InvalidText": ("line", "word"), "TooMany": ("most",), "BadParts": ("index",), "NotPositive": ("index",),
    "BadPoint": ("index",), "BadRow": (), "NotSteady": ("index",), "BadGroup": (), "BadLine": ("index",),
    "BadLinePlan": (), "BadLates": (), "BadAmount": (), "BadItems": ("index",), "BadArcs": (),
    "BadExponents": (), "BadStore": ("index",), "BadLevels": (), "BadValues": (), "BadRooms": (),
    "BadAmounts": (), "BadBounds": (), "BadMix": (), "BadRule": (), "BadEdit": (), "NothingToUndo": (),
    "BadJoint": ("index",), "NotFavored": (),
}


class Errors(unittest.TestCase):
    def test_base(self):
        self.assertEqual(errors.LotError.__bases__, (ValueError,))

    def test_each_is_a_direct_subclass_with_its_fields(self):
        for name, fields in FIELDS.items():
            kind = getattr(errors, name)
            self.assertEqual(kind.__bases__, (errors.LotError,), name)
            self.assertEqual(kind.__module__, "lotplans.errors")
            values = list(range(3, 3 + len(fields)))
            made = kind(*values)
            self.assertEqual(vars(made), dict(zip(fields, values)), name)
            self.assertEqual(vars(kind(**dict(zip(fields, values)))), dict(zip(fields, values)), name)

    def test_there_are_no_others(self):
        classes = {name for name, thing in vars(errors).items() if isinstance(thing, type)}
        self.assertEqual(classes, set(FIELDS) | {"LotError"})

    def test_messages_are_told(self):
        self.assertIn("3", str(errors.BadPlan(3)))
        self.assertIn("7", str(errors.InvalidText(2, 7)))


if __name__ == "__main__":
    unittest.main()
