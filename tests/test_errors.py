"""The refusals: under what each one stands, and its fields."""

import unittest

from paperrows import errors

PLAIN = ("NoForm", "NoText", "NoRule", "NoStart", "NoNumber", "NoNames", "NoPapers", "NoSaying")
WITH_PLACE = ("NoRows", "NoClaims", "NoArea", "NoDeeds", "NoPass")


class ErrorsTest(unittest.TestCase):

    def test_wrong_stands_under_value_error(self):
        self.assertEqual(errors.Wrong.__bases__, (ValueError,))

    def test_plain_ones_stand_straight_under_wrong(self):
        for name in PLAIN:
            with self.subTest(name):
                kind = getattr(errors, name)
                self.assertEqual(kind.__bases__, (errors.Wrong,))
                self.assertEqual(str(kind("why")), "why")
                self.assertFalse(hasattr(kind("why"), "at"))

    def test_those_with_a_place_stand_straight_under_wrong(self):
        for name in WITH_PLACE:
            with self.subTest(name):
                kind = getattr(errors, name)
                self.assertEqual(kind.__bases__, (errors.Wrong,))
                self.assertEqual(kind(7).at, 7)
                self.assertIsNone(kind(None).at)
                self.assertIsInstance(str(kind(7)), str)

    def test_those_of_wants_tell_row_kind_and_number(self):
        for kind, base in ((errors.Unshown, LookupError), (errors.Unlet, RuntimeError)):
            with self.subTest(kind):
                self.assertEqual(kind.__bases__, (base,))
                told = kind(4, "claim", 9)
                self.assertEqual((told.row, told.kind, told.number), (4, "claim", 9))
                self.assertNotIsInstance(told, errors.Wrong)

    def test_unmade_tells_deed_and_kind(self):
        self.assertEqual(errors.Unmade.__bases__, (ArithmeticError,))
        told = errors.Unmade(3, "keep")
        self.assertEqual((told.deed, told.kind), (3, "keep"))

    def test_no_name_tells_the_name(self):
        self.assertEqual(errors.NoName.__bases__, (KeyError,))
        self.assertEqual(errors.NoName("abc").name, "abc")

    def test_no_other_kind_stands_there(self):
        told = [name for name, thing in vars(errors).items() if isinstance(thing, type)]
        expected = ["Wrong", "Unshown", "Unlet", "Unmade", "NoName", *PLAIN, *WITH_PLACE]
        self.assertEqual(sorted(told), sorted(expected))


if __name__ == "__main__":
    unittest.main()
