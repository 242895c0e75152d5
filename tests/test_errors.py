"""0.3 and the interface: the refusals and how they stand."""

import unittest

from daysheet import errors

NAMES = ("NoMeeting", "Taken", "NoTime", "TooMany", "NoZone", "NoText", "NoSheet", "NoBack")


class ErrorsTest(unittest.TestCase):
    def test_sheet_error_is_a_value_error(self):
        self.assertEqual(errors.SheetError.__bases__, (ValueError,))

    def test_each_refusal_stands_under_sheet_error(self):
        for name in NAMES:
            with self.subTest(name=name):
                self.assertEqual(getattr(errors, name).__bases__, (errors.SheetError,))

    def test_none_stands_under_another(self):
        for one in NAMES:
            for other in NAMES:
                if one != other:
                    with self.subTest(one=one, other=other):
                        self.assertFalse(issubclass(getattr(errors, one), getattr(errors, other)))


if __name__ == "__main__":
    unittest.main()
