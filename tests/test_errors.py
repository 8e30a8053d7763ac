"""The interface: the eight classes of packhall.errors."""

import unittest

from packhall import errors

REFUSALS = ["NoNumber", "NoCode", "NoPlace", "Broken", "NoText", "NoName", "NoRow"]


class Errors(unittest.TestCase):
    def test_any_refusal_is_a_value_error(self):
        self.assertTrue(issubclass(errors.PackError, ValueError))

    def test_each_refusal_is_a_pack_error(self):
        for name in REFUSALS:
            with self.subTest(name=name):
                refusal = getattr(errors, name)
                self.assertTrue(issubclass(refusal, errors.PackError))
                self.assertTrue(issubclass(refusal, ValueError))

    def test_none_stands_under_another_one(self):
        for name in REFUSALS:
            for other in REFUSALS:
                if name != other:
                    with self.subTest(name=name, other=other):
                        self.assertFalse(issubclass(getattr(errors, name), getattr(errors, other)))

    def test_a_refusal_can_be_raised_and_taken_by_each_name(self):
        for name in REFUSALS:
            refusal = getattr(errors, name)
            for taken in (refusal, errors.PackError, ValueError):
                with self.subTest(name=name, taken=taken):
                    with self.assertRaises(taken):
                        raise refusal("so")


if __name__ == "__main__":
    unittest.main()
