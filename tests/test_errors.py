"""The error classes of sixviews.errors."""

import inspect
import unittest

from sixviews import errors

ATTRIBUTES = {
    "BadView": ["view"], "BadKind": ["kind"], "BadTurning": ["number"], "BadCount": ["count"],
    "BadLength": ["at"], "BadPower": ["power"], "BadSize": ["wide", "high"], "BadText": ["at"],
    "BadLine": ["at"], "BadDeed": ["at"], "BadName": ["name"], "TakenName": ["name"],
    "UnknownName": ["name"], "NotSlot": ["name"], "NotLayer": ["name"], "TooMany": ["count"],
    "TooHeavy": ["weight"], "NotDrawn": ["side"], "NotClosed": ["gap"], "Nowhere": [], "NoSpots": [],
    "Undivided": ["quotient", "rest"], "BrokenSeam": ["seam", "line", "here", "there"],
    "NoEraser": ["view"], "BlankView": ["view"], "NoQuotient": ["view"], "UnlikeTotals": ["view", "other"],
    "UnlikeEuler": ["at"], "OddDigest": [], "NoKiller": [], "NotAlone": ["view"], "NotPlain": ["at"],
    "NotStill": ["number"], "NotLinear": ["name"], "NotSingle": ["count"], "NoStep": [],
}


class ErrorsTest(unittest.TestCase):
    def test_base_class(self):
        self.assertEqual(errors.DrawingError.__bases__, (ValueError,))

    def test_no_other_classes(self):
        found = {name for name, item in vars(errors).items() if inspect.isclass(item)}
        self.assertEqual(found, set(ATTRIBUTES) | {"DrawingError"})

    def test_each_directly_under_the_base(self):
        for name in ATTRIBUTES:
            self.assertEqual(getattr(errors, name).__bases__, (errors.DrawingError,), name)

    def test_attributes_by_position(self):
        for name, attributes in ATTRIBUTES.items():
            values = [("value", number) for number in range(len(attributes))]
            error = getattr(errors, name)(*values)
            self.assertEqual([getattr(error, attribute) for attribute in attributes], values, name)

    def test_attributes_by_name(self):
        for name, attributes in ATTRIBUTES.items():
            values = {attribute: ("value", number) for number, attribute in enumerate(attributes)}
            error = getattr(errors, name)(**values)
            self.assertEqual({key: getattr(error, key) for key in values}, values, name)

    def test_raised_and_caught(self):
        for name, attributes in ATTRIBUTES.items():
            with self.assertRaises(ValueError):
                raise getattr(errors, name)(*attributes)


if __name__ == "__main__":
    unittest.main()
