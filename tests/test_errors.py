"""The refusals, as the interface lists them."""

import unittest

from rootwheel import errors

NAMES = """NoCosine NoCrowds NoDeed NoFold NoName NoOrder NoPart NoPlain NoPrime NoRow NoSize
NoText NoUnit""".split()


class Refusals(unittest.TestCase):
    def test_wheel_error_is_a_value_error(self):
        self.assertEqual(errors.WheelError.__bases__, (ValueError,))
        self.assertEqual(errors.WheelError.__module__, "rootwheel.errors")

    def test_all_stand_straight_under_wheel_error(self):
        for name in NAMES:
            with self.subTest(name=name):
                refused = getattr(errors, name)
                self.assertEqual(refused.__bases__, (errors.WheelError,))
                self.assertEqual(refused.__name__, name)
                self.assertEqual(refused.__module__, "rootwheel.errors")

    def test_none_stands_under_another_one(self):
        for name in NAMES:
            for other in NAMES:
                under = issubclass(getattr(errors, name), getattr(errors, other))
                self.assertEqual(under, name == other, (name, other))

    def test_each_can_be_raised_and_caught(self):
        for name in NAMES:
            for caught in (getattr(errors, name), errors.WheelError, ValueError):
                with self.assertRaises(caught):
                    raise getattr(errors, name)("why")


if __name__ == "__main__":
    unittest.main()
