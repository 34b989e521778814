"""Point 4: forms, what they come to, and what is made of them."""

import unittest

from paperrows.errors import NoForm
from paperrows.forms import added, contrary, holds_at, led, often, worth
from paperrows.rules import Rule

SIXTY = 10 ** 60 - 1
NO_FORMS = (
    (), [], [1, 2], (True,), (1, False), (1, None), (1, "2"), (1, (2,)), (1, [2]), None, True, 0, 5, "", "1",
    "x + 1", {}, {0: 1}, Rule(),
)
NO_WHOLE_NUMBERS = (True, False, None, "1", "", (1,), [1], {}, Rule())


class FormTest(unittest.TestCase):

    def refused(self, call, *args):
        with self.subTest(call=call.__name__, args=args):
            with self.assertRaises(NoForm) as told:
                call(*args)
            self.assertIs(type(told.exception), NoForm)


class WorthTest(FormTest):

    def test_constant_alone(self):
        self.assertEqual(worth((7,), []), 7)
        self.assertEqual(worth((-7,), ()), -7)

    def test_constant_and_each_unknown(self):
        self.assertEqual(worth((5, 2, -3), [10, 4]), 13)
        self.assertEqual(worth((5, 2, -3), (4, 10)), -17)
        self.assertEqual(worth((0, 0, 1), (9, -1)), -1)

    def test_sixty_figures(self):
        self.assertEqual(worth((SIXTY, -SIXTY), (1,)), 0)
        self.assertEqual(worth((1, SIXTY), (SIXTY,)), SIXTY * SIXTY + 1)

    def test_worths_that_do_not_fit(self):
        for worths in ([], [1], [1, 2, 3], (1,), (1, 2, 3), [1, True], [False, 1], [1, None], [1, "2"], [1, [2]]):
            self.refused(worth, (0, 1, 1), worths)
        for worths in (None, 12, "12", {1: 1, 2: 2}, {}, True, Rule()):
            self.refused(worth, (0, 1, 1), worths)
        for worths in ([0], (0,), None, {}, ""):
            self.refused(worth, (0,), worths)

    def test_no_forms(self):
        for form in NO_FORMS:
            for worths in ([], [1], (1,), None):
                self.refused(worth, form, worths)


class HoldsTest(FormTest):

    def test_holds_from_nought_on(self):
        self.assertIs(holds_at((-6, 2), [3]), True)
        self.assertIs(holds_at((-7, 2), [3]), False)
        self.assertIs(holds_at((-5, 2), [3]), True)
        self.assertIs(holds_at((0,), ()), True)
        self.assertIs(holds_at((-1,), ()), False)
        self.assertIs(holds_at((SIXTY, -1), (SIXTY,)), True)
        self.assertIs(holds_at((SIXTY - 1, -1), (SIXTY,)), False)

    def test_refused(self):
        for form in NO_FORMS:
            self.refused(holds_at, form, [1])
        for worths in ([], [1, 2], [True], None, {0: 1}, "1"):
            self.refused(holds_at, (1, 1), worths)


class AddedTest(FormTest):

    def test_added(self):
        self.assertEqual(added((1,), (-4,)), (-3,))
        self.assertEqual(added((1, 2, 3), (10, -2, SIXTY)), (11, 0, SIXTY + 3))

    def test_forms_of_other_length(self):
        for one, other in (((1,), (1, 2)), ((1, 2), (1,)), ((1, 2, 0), (1, 2))):
            self.refused(added, one, other)

    def test_no_forms(self):
        for form in NO_FORMS:
            for other in ((1,), (1, 2), form):
                self.refused(added, form, other)
                self.refused(added, other, form)


class OftenTest(FormTest):

    def test_often(self):
        self.assertEqual(often((1, -2), 3), (3, -6))
        self.assertEqual(often((1, -2), 0), (0, 0))
        self.assertEqual(often((1, -2), -1), (-1, 2))
        self.assertEqual(often((SIXTY,), -SIXTY), (-SIXTY * SIXTY,))

    def test_refused(self):
        for many in NO_WHOLE_NUMBERS:
            self.refused(often, (1, 2), many)
        for form in NO_FORMS:
            self.refused(often, form, 1)
            self.refused(often, form, None)


class ContraryTest(FormTest):

    def test_contrary(self):
        self.assertEqual(contrary((0,)), (-1,))
        self.assertEqual(contrary((-1,)), (0,))
        self.assertEqual(contrary((5, -2, 3)), (-6, 2, -3))
        self.assertEqual(contrary((SIXTY, 0)), (-SIXTY - 1, 0))

    def test_just_one_of_both_holds(self):
        form = (3, -2, 1)
        for p in range(-4, 5):
            for q in range(-4, 5):
                self.assertNotEqual(holds_at(form, [p, q]), holds_at(contrary(form), [p, q]))

    def test_no_forms(self):
        for form in NO_FORMS:
            self.refused(contrary, form)


class LedTest(FormTest):

    def test_each_unknown_becomes_a_form(self):
        self.assertEqual(led((1, 2, -3), [(5, 1), (7, -1)]), (-10, 5))
        self.assertEqual(led((1, 2, -3), ((5,), (7,))), (-10,))
        self.assertEqual(led((4, 1), ((0, 0, 0, 1),)), (4, 0, 0, 1))
        self.assertEqual(led((SIXTY, SIXTY), [(SIXTY,)]), (SIXTY * SIXTY + SIXTY,))

    def test_unknowns_of_no_weight_count_for_the_length(self):
        self.assertEqual(led((4, 0), [(9, 9, 9)]), (4, 0, 0))

    def test_comes_to_the_same(self):
        form, others = (3, -2, 5), [(1, 2, 3, 4), (-1, 0, 7, -2)]
        worths = (6, -8, 11)
        through = [worth(other, worths) for other in others]
        self.assertEqual(worth(led(form, others), worths), worth(form, through))

    def test_without_unknowns_it_is_itself(self):
        self.assertEqual(led((5,), []), (5,))
        self.assertEqual(led((-5,), ()), (-5,))

    def test_others_that_do_not_fit(self):
        for others in ([], [(1,)], [(1,), (2,), (3,)], ((1, 2), (1,)), [(1,), (1, 2)], [(1,), (0, 0)]):
            self.refused(led, (0, 1, 1), others)
            self.refused(led, (0, 0, 0), others)
        for others in ([(1,)], ((),), None, {}, "", 0, False, [None]):
            self.refused(led, (5,), others)
        for others in (None, {0: (1,), 1: (1,)}, "ab", 2, True, Rule()):
            self.refused(led, (0, 1, 1), others)

    def test_no_forms(self):
        for form in NO_FORMS:
            self.refused(led, form, [])
            self.refused(led, form, [(1,)])
            self.refused(led, (0, 1), [form])
            self.refused(led, (0, 1, 1), ((1, 2), form))
            self.refused(led, (0, 1, 0), (form, (1, 2)))


if __name__ == "__main__":
    unittest.main()
