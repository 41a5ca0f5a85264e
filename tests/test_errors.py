"""Tests of twochoosers.errors: points 11 and 12."""

import unittest

from twochoosers import errors
from twochoosers.wishes import Wishes

# Each error class with the arguments that the interface lists for it.
ARGUMENTS = {
    "BadName": ["name"],
    "DuplicateName": ["name"],
    "UnknownName": ["name"],
    "BadCount": ["count"],
    "BadText": ["text"],
    "BadSet": ["value"],
    "BadCell": ["value"],
    "BadSide": ["word"],
    "BadLine": ["number"],
    "BadWish": ["value"],
    "UnlikeOutcomes": ["names"],
    "IsFirm": [],
    "NotFirm": ["value"],
    "IsSmooth": [],
    "NothingToUndo": [],
}


def any_values():
    return [
        None, True, False, 0, 7, -1, 10 ** 6000, "", "a", "No name\n", "{x}", (), ("a", "b"),
        [], ["a", []], {}, {"a": [1, {"b": (None,)}]}, [[[[[]]]]], (10 ** 6000, [10 ** 6000]),
    ]


class ClassesTest(unittest.TestCase):

    def test_there_are_fifteen_classes_and_their_base(self):
        found = [
            name for name, thing in vars(errors).items()
            if isinstance(thing, type) and thing.__module__ == "twochoosers.errors"
        ]
        self.assertEqual(sorted(found), sorted([*ARGUMENTS, "ChooserError"]))
        self.assertEqual(len(ARGUMENTS), 15)

    def test_the_base_is_a_value_error(self):
        self.assertTrue(issubclass(errors.ChooserError, ValueError))
        self.assertIsNot(errors.ChooserError, ValueError)

    def test_all_are_below_the_base_and_none_below_another(self):
        for name in ARGUMENTS:
            one = getattr(errors, name)
            self.assertTrue(issubclass(one, errors.ChooserError), name)
            for other in ARGUMENTS:
                if name != other:
                    self.assertFalse(issubclass(one, getattr(errors, other)), (name, other))


class ArgumentsTest(unittest.TestCase):

    def test_each_keeps_the_very_argument_passed_by_position(self):
        for name, arguments in ARGUMENTS.items():
            for argument in arguments:
                for value in any_values():
                    error = getattr(errors, name)(value)
                    self.assertIs(getattr(error, argument), value, name)

    def test_each_keeps_the_very_argument_passed_by_name(self):
        for name, arguments in ARGUMENTS.items():
            for argument in arguments:
                for value in any_values():
                    error = getattr(errors, name)(**{argument: value})
                    self.assertIs(getattr(error, argument), value, name)

    def test_an_argument_may_be_an_object_of_the_program(self):
        wishes = Wishes({"a": 1})
        self.assertIs(errors.BadSet(wishes).value, wishes)
        inner = errors.IsFirm()
        self.assertIs(errors.BadWish(inner).value, inner)

    def test_the_argument_is_not_copied(self):
        value = ["a"]
        error = errors.BadSet(value)
        value.append("b")
        self.assertEqual(error.value, ["a", "b"])

    def test_some_take_no_argument(self):
        for name in ("IsFirm", "IsSmooth", "NothingToUndo"):
            self.assertEqual(vars(getattr(errors, name)()), {}, name)

    def test_each_is_raised_and_caught_with_its_argument(self):
        for name, arguments in ARGUMENTS.items():
            values = ["a"] * len(arguments)
            for caught in (getattr(errors, name), errors.ChooserError, ValueError):
                with self.assertRaises(caught) as context:
                    raise getattr(errors, name)(*values)
                self.assertIs(type(context.exception), getattr(errors, name))
                for argument in arguments:
                    self.assertEqual(getattr(context.exception, argument), "a")


if __name__ == "__main__":
    unittest.main()
