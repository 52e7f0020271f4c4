"""Point [3] and the interface of seatword.errors."""

import unittest

from seatword import errors

PLAIN = ["NoName", "NoAsk", "Full", "NoShut", "Over", "NoDeed", "NoOrder", "NoDay", "NoRow"]
FIELDS = {"Taken": "name", "Unknown": "name", "Sits": "name", "NotSitting": "name",
          "Early": "hour", "Bound": "day", "NoText": "row"}


class Errors(unittest.TestCase):
    def test_seat_error_is_a_value_error(self):
        self.assertEqual(errors.SeatError.__bases__, (ValueError,))

    def test_there_are_sixteen_and_each_is_straight_under_seat_error(self):
        self.assertEqual(len(PLAIN) + len(FIELDS), 16)
        for word in PLAIN + sorted(FIELDS):
            self.assertEqual(getattr(errors, word).__bases__, (errors.SeatError,), word)
        self.assertEqual(len(errors.SeatError.__subclasses__()), 16)

    def test_each_plain_one_is_raised_and_caught(self):
        for word in PLAIN:
            with self.assertRaises(errors.SeatError) as caught:
                raise getattr(errors, word)("why")
            self.assertIs(type(caught.exception), getattr(errors, word))

    def test_each_field_is_set_on_its_object(self):
        for word, field in FIELDS.items():
            for worth in (0, 7, "anna", None, ["a"], {"a": 1}):
                error = getattr(errors, word)(worth)
                self.assertEqual(vars(error), {field: worth}, word)
                self.assertIsInstance(str(error), str)

    def test_each_one_with_a_field_is_raised_and_caught(self):
        for word, field in FIELDS.items():
            with self.assertRaises(ValueError) as caught:
                raise getattr(errors, word)(3)
            self.assertIs(type(caught.exception), getattr(errors, word))
            self.assertEqual(getattr(caught.exception, field), 3)


if __name__ == "__main__":
    unittest.main()
