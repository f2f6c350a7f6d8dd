import unittest

from tiredpots import errors
from tiredpots.errors import DyeError

NAMES = ["BadName", "BadHold", "BadNumber", "BadAmount", "Known", "Unknown", "Full", "NotSure",
         "RingOfWishes", "BadLine"]


class ErrorTests(unittest.TestCase):
    def test_base_is_a_direct_subclass_of_value_error(self):
        self.assertEqual((ValueError,), DyeError.__bases__)

    def test_each_error_is_a_direct_subclass_of_the_base(self):
        for name in NAMES:
            self.assertEqual((DyeError,), getattr(errors, name).__bases__, name)

    def test_each_error_is_defined_there(self):
        for name in ["DyeError", *NAMES]:
            self.assertEqual("tiredpots.errors", getattr(errors, name).__module__, name)
            self.assertEqual(name, getattr(errors, name).__name__)

    def test_thing_is_what_was_passed(self):
        for name in ["DyeError", *NAMES]:
            for thing in [8, None, True, "wool", ("take", 3), ["shawl", "ribbon"]]:
                self.assertIs(thing, getattr(errors, name)(thing).thing)

    def test_an_error_can_be_made_of_a_number_too_long_to_print(self):
        self.assertEqual(10 ** 5000, errors.BadNumber(10 ** 5000).thing)

    def test_an_error_is_caught_as_its_bases(self):
        for base in [DyeError, ValueError]:
            with self.assertRaises(base):
                raise errors.Full(8)


if __name__ == "__main__":
    unittest.main()
