"""0.4: the classes of refusals."""

import copy
import unittest

from doorhouse import errors

WITH_TEXT = (
    "NoRoutes", "NoVerb", "NoPath", "NoName", "NoValues", "NoNodes", "NoTemplate", "NoData", "NoKinds", "NoDeeds",
    "NoVersion", "NoRules", "NoAsker", "NoThings", "NoPeople", "NoSite", "NoNumber", "NoRequest", "NoDeed", "NoLog",
    "NoLine", "NoWords",
)
WITH_PLACE = ("NoMarks", "Cannot")


class Errors(unittest.TestCase):
    def test_door_error_stands_under_value_error(self):
        self.assertEqual(errors.DoorError.__bases__, (ValueError,))

    def test_each_stands_straight_under_door_error(self):
        for name in WITH_TEXT + WITH_PLACE:
            self.assertEqual(getattr(errors, name).__bases__, (errors.DoorError,), name)

    def test_none_stands_under_another_one(self):
        names = WITH_TEXT + WITH_PLACE
        for one in names:
            for other in names:
                under = issubclass(getattr(errors, one), getattr(errors, other))
                self.assertEqual(under, one == other, (one, other))

    def test_no_other_class_is_there(self):
        there = {name for name, thing in vars(errors).items() if isinstance(thing, type)}
        self.assertEqual(there, {"DoorError", *WITH_TEXT, *WITH_PLACE})

    def test_made_with_a_text(self):
        for name in ("DoorError",) + WITH_TEXT:
            error = getattr(errors, name)("why it is so")
            self.assertEqual(str(error), "why it is so", name)
            self.assertIsInstance(error, ValueError)

    def test_made_with_their_field(self):
        for name in WITH_PLACE:
            for at in (-1, 0, 1, 600):
                self.assertEqual(getattr(errors, name)(at).at, at)
                self.assertEqual(getattr(errors, name)(at=at).at, at)

    def test_a_copy_is_alike(self):
        for name in WITH_PLACE:
            for error in (getattr(errors, name)(7), getattr(errors, name)(at=7)):
                self.assertEqual((copy.copy(error).at, str(copy.copy(error))), (7, str(error)))

    def test_the_field_belongs_to_the_error(self):
        one, other = errors.NoMarks(1), errors.NoMarks(2)
        self.assertEqual((one.at, other.at), (1, 2))

    def test_a_field_must_be_told(self):
        for name in WITH_PLACE:
            with self.assertRaises(TypeError):
                getattr(errors, name)()

    def test_raised_and_caught(self):
        for name in WITH_TEXT:
            with self.assertRaises(errors.DoorError):
                raise getattr(errors, name)("so")
        for name in WITH_PLACE:
            with self.assertRaises(errors.DoorError) as caught:
                raise getattr(errors, name)(7)
            self.assertEqual(caught.exception.at, 7)


if __name__ == "__main__":
    unittest.main()
