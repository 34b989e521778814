"""Point 5: the text of a form, and the form of a text."""

import unittest
from itertools import product

from paperrows.errors import NoForm, NoText
from paperrows.forms import form_text, read_form
from paperrows.rules import Rule

XYZ = ["x", "y", "z"]
TEXTS = (
    ((0,), [], "0"),
    ((5,), [], "5"),
    ((-5,), [], "-5"),
    ((1,), [], "1"),
    ((-1,), [], "-1"),
    ((0, 0, 0, 0), XYZ, "0"),
    ((0, 1, 0, 0), XYZ, "x"),
    ((0, -1, 0, 0), XYZ, "-x"),
    ((0, 0, 2, 0), XYZ, "2*y"),
    ((0, 0, -2, 0), XYZ, "-2*y"),
    ((7, 0, 0, 1), XYZ, "z + 7"),
    ((-7, 0, 0, 1), XYZ, "z - 7"),
    ((1, 1, 1, 1), XYZ, "x + y + z + 1"),
    ((-1, -1, -1, -1), XYZ, "-x - y - z - 1"),
    ((-1, 10, -10, 1), XYZ, "10*x - 10*y + z - 1"),
    ((1, 0, 0, 0), XYZ, "1"),
    ((-12, 0, 0, 0), XYZ, "-12"),
    ((3, 1, -1, 11, -11), ["p", "p1", "p11", "p12"], "p - p1 + 11*p11 - 11*p12 + 3"),
    ((0, 5, -6), ["abcdefgh", "a2345678"], "5*abcdefgh - 6*a2345678"),
    ((0, 1, 1, 1), ["z", "a0", "a"], "z + a0 + a"),
)
NO_NAMES = (
    ["x"], ["x", "y", "z"], [], ["x", "x"], ["abcdefghi", "y"], ["1", "y"], ["1x", "y"], ["x", ""], ["X", "y"],
    ["x_", "y"], ["x", "y z"], ["x", "y-"], ["x", None], ["x", 1], ["x", True], ["x", ["y"]], ["x", ("y",)],
    ("x", "y"), None, "xy", 2, True, {"x": 1, "y": 2}, Rule(), [["x"], ["x"]], [None, None],
)
NO_TEXTS = (
    "", " ", "y + x", "5 + x", "x + 5 + y", "x + x", "x - x", "2*x + x", "1 + 1", "05", "00", "-0", "x + 0", "0*x",
    "0*x + y", "x + 0*y", "1*x", "-1*x", "x - 1*y", "01*x", "x + 02", " x", "x ", "x  + y", "x + y ", "x+y", "x +y",
    "x -y", "x - -y", "x + -y", "x - -2", "+x", "+5", "- x", "-", "+", "x +", "x -", "+ x", "x y", "x * y", "x*y",
    "x*2", "2 * x", "2*", "*x", "2*x*y", "2x", "--x", "--5", "2*w", "w", "xy", "X", "x\n", "\nx", "x\n+ y", "x + y\n",
    "5-", "1 5", "1,000", "1_0", "0x1", "1.0", "x + + y", "x - + y", "x & y", "x ; y", "-2*-x", "2*-x",
)


class TextTest(unittest.TestCase):

    def test_texts(self):
        for form, names, text in TEXTS:
            with self.subTest(text):
                self.assertEqual(form_text(form, names=names), text)

    def test_texts_are_read(self):
        for form, names, text in TEXTS:
            with self.subTest(text):
                self.assertEqual(read_form(text, names=names), form)

    def test_every_small_form_is_read_again(self):
        seen = {}
        for form in product((-11, -2, -1, 0, 1, 2, 10), repeat=3):
            text = form_text(form, names=["b", "a1"])
            self.assertEqual(read_form(text, names=["b", "a1"]), form)
            self.assertNotIn(text, seen)
            seen[text] = form

    def test_four_hundred_figures(self):
        for number in (10 ** 400 - 1, 1 - 10 ** 400, 10 ** 399):
            for form in ((number, 0), (0, number), (number, number)):
                text = form_text(form, names=["x"])
                self.assertEqual(read_form(text, names=["x"]), form)

    def test_more_than_four_hundred_figures(self):
        figures = "1" * 401
        for text in (figures, "-" + figures, figures + "*x", f"x + {figures}", f"x - {figures}", "9" * 19000):
            with self.subTest(text[:9]):
                with self.assertRaises(NoText):
                    read_form(text, names=["x"])

    def test_numbers_that_only_added_are_too_long(self):
        figures = "9" * 400
        with self.assertRaises(NoText):
            read_form(f"{figures} + {figures}", names=[])

    def test_no_names(self):
        for names in NO_NAMES:
            with self.subTest(names=names):
                with self.assertRaises(NoForm):
                    form_text((1, 2, 3), names=names)

    def test_no_names_to_read_by(self):
        for names in NO_NAMES:
            if names in (["x"], ["x", "y", "z"], []):
                continue
            with self.subTest(names=names):
                with self.assertRaises(NoForm):
                    read_form("x", names=names)

    def test_no_form(self):
        for form in ((), [1], (True,), (1, None), None, "x", 1, Rule()):
            with self.subTest(form=form):
                with self.assertRaises(NoForm):
                    form_text(form, names=[])

    def test_no_texts(self):
        for text in NO_TEXTS:
            with self.subTest(text=text):
                with self.assertRaises(NoText):
                    read_form(text, names=["x", "y"])

    def test_things_that_are_no_texts(self):
        for text in (None, True, 0, 5, [], ["x"], ("x",), {"x": 1}, (0, 1, 1), Rule()):
            with self.subTest(text=text):
                with self.assertRaises(NoText):
                    read_form(text, names=["x", "y"])

    def test_names_are_looked_at_ahead_of_the_text(self):
        for text in ("", None, "x + x"):
            with self.assertRaises(NoForm):
                read_form(text, names=("x",))

    def test_long_texts(self):
        names = ["x", "y"]
        for text in ("x + " * 4999, " " * 20000, "-" * 20000, "x" * 20000, "x - y" + " - y" * 4000, "*" * 20000):
            with self.assertRaises(NoText):
                read_form(text, names=names)


if __name__ == "__main__":
    unittest.main()
