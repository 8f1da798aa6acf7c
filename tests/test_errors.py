"""Promise 2: the errors, their fields and their bases."""

import unittest

from roomtold import errors
from tests.odd import NO_INTEGERS, NO_ROWS

FIELDS = {
    "BadSteps": "part", "BadTree": "part", "BadRooms": "value", "BadPage": "number", "BadNode": "number",
    "BadClass": "value", "BadSize": "value", "BadArgument": "value", "BadNumber": "number", "BadSetting": "part",
    "BadChange": "value", "BadCommand": "command", "BadText": "line",
}
VALUES = ["most", "", 0, -7, 10 ** 50, [1, [2]], {"a": 1}, errors.RoomError("inner")] + NO_INTEGERS + NO_ROWS


class Fields(unittest.TestCase):
    def test_field_by_position(self):
        for name, field in FIELDS.items():
            for value in VALUES:
                error = getattr(errors, name)(value)
                self.assertIs(getattr(error, field), value, name)

    def test_field_by_name(self):
        for name, field in FIELDS.items():
            for value in VALUES:
                error = getattr(errors, name)(**{field: value})
                self.assertIs(getattr(error, field), value, name)

    def test_each_takes_just_its_field(self):
        for name, field in FIELDS.items():
            kind = getattr(errors, name)
            self.assertRaises(TypeError, kind)
            self.assertRaises(TypeError, kind, 1, 2)
            self.assertRaises(TypeError, kind, other=1)
            self.assertEqual(list(vars(kind(3))), [field])

    def test_room_error_is_made_as_value_error_is(self):
        self.assertEqual(errors.RoomError().args, ())
        self.assertEqual(errors.RoomError("a", 2).args, ("a", 2))
        self.assertEqual(str(errors.RoomError("told")), "told")
        self.assertRaises(TypeError, errors.RoomError, part="most")

    def test_nothing_left_has_no_field(self):
        self.assertEqual(vars(errors.NothingLeft()), {})
        self.assertEqual(errors.NothingLeft().args, ())

    def test_a_changed_list_stays_the_field(self):
        value = [1]
        error = errors.BadArgument(value)
        value.append(2)
        self.assertEqual(error.value, [1, 2])


class Bases(unittest.TestCase):
    def test_room_error_stands_under_value_error(self):
        self.assertEqual(errors.RoomError.__bases__, (ValueError,))

    def test_the_others_stand_directly_under_room_error(self):
        for name in FIELDS:
            self.assertEqual(getattr(errors, name).__bases__, (errors.RoomError,), name)

    def test_nothing_left_stands_under_lookup_error(self):
        self.assertEqual(errors.NothingLeft.__bases__, (LookupError,))
        self.assertFalse(issubclass(errors.NothingLeft, ValueError))

    def test_none_is_of_the_class_of_another(self):
        names = list(FIELDS) + ["NothingLeft"]
        for name in names:
            for other in names:
                if name != other:
                    self.assertFalse(issubclass(getattr(errors, name), getattr(errors, other)), (name, other))

    def test_each_is_caught_as_its_bases(self):
        for name in FIELDS:
            for base in (getattr(errors, name), errors.RoomError, ValueError):
                with self.assertRaises(base):
                    raise getattr(errors, name)(1)
        with self.assertRaises(LookupError):
            raise errors.NothingLeft()

    def test_names_are_their_own(self):
        for name in list(FIELDS) + ["NothingLeft", "RoomError"]:
            self.assertEqual(getattr(errors, name).__name__, name)
            self.assertEqual(getattr(errors, name).__module__, "roomtold.errors")


if __name__ == "__main__":
    unittest.main()
