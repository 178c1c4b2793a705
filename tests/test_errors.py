"""The errors of the interface: their attributes and their base classes."""

import unittest

from heldproofs import errors

ATTRIBUTES = {
    "BadName": ["name"], "NameTaken": ["name"], "UnknownName": ["name"], "InUse": ["name"],
    "Circular": ["name"], "NoRoom": ["name"], "LeftOver": ["name"], "WrongHold": ["name"],
    "BadKind": ["kind"], "TextError": ["index"], "NoPart": ["path"], "NotBare": ["path"],
    "DerivationError": ["path", "reason"], "NoStep": ["path", "way"],
    "NoMeeting": ["name", "make_index", "open_index"], "BadWorld": ["reason"],
    "WorldTooLarge": ["limit"], "NoGoal": ["number"], "GoalsLeft": ["count"],
    "WrongGoal": [], "NotSimple": [], "NotAlike": [], "NotOnce": [], "NotPlain": [],
    "NothingToUndo": [], "NothingToRedo": [],
}

VALUES = {
    "name": "x", "kind": [2, 0], "index": 7, "path": (0, 1), "reason": "goal", "way": "left",
    "make_index": 1, "open_index": 2, "limit": 40, "number": 3, "count": 5,
}


class ErrorsTest(unittest.TestCase):
    def test_base_class(self):
        self.assertEqual(errors.HeldError.__bases__, (ValueError,))

    def test_each_error_stands_directly_below_the_base_class(self):
        for name in ATTRIBUTES:
            self.assertEqual(getattr(errors, name).__bases__, (errors.HeldError,), name)

    def test_none_is_below_another_one(self):
        for name in ATTRIBUTES:
            for other in ATTRIBUTES:
                below = issubclass(getattr(errors, name), getattr(errors, other))
                self.assertEqual(below, name == other, (name, other))

    def test_there_are_no_other_classes(self):
        found = {name for name, value in vars(errors).items() if isinstance(value, type)}
        self.assertEqual(found, set(ATTRIBUTES) | {"HeldError"})

    def test_attributes_in_the_order_of_the_interface(self):
        for name, attributes in ATTRIBUTES.items():
            told = [VALUES[attribute] for attribute in attributes]
            error = getattr(errors, name)(*told)
            self.assertEqual(vars(error), dict(zip(attributes, told)), name)

    def test_attributes_by_keyword(self):
        for name, attributes in ATTRIBUTES.items():
            told = {attribute: VALUES[attribute] for attribute in attributes}
            error = getattr(errors, name)(**told)
            self.assertEqual(vars(error), told, name)

    def test_they_can_be_raised_caught_and_shown(self):
        for name, attributes in ATTRIBUTES.items():
            told = [VALUES[attribute] for attribute in attributes]
            with self.assertRaises(errors.HeldError) as caught:
                raise getattr(errors, name)(*told)
            self.assertIsInstance(str(caught.exception), str)

    def test_wrong_number_of_arguments(self):
        for name, attributes in ATTRIBUTES.items():
            if attributes:
                with self.assertRaises(TypeError):
                    getattr(errors, name)()


if __name__ == "__main__":
    unittest.main()
