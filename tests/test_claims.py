"""Point 8: claims at places among rows."""

import unittest

from paperrows.errors import NoClaims, NoRows
from paperrows.rows import look_claims
from paperrows.rules import Rule

STOP = ("stop",)
FORM = (1, 0, 0, 0, 0, 0, 0, 0, 0, -1)

# The joins are 2 and 4; the other places that can be told are 1, 3 and 5.
ROWS = (("below", 0, 1, 4), ("same", 0, 1, 2), STOP, STOP, STOP, STOP)
NO_LISTS = (
    None, True, 0, "", (), (FORM,), {}, {0: FORM}, Rule(), [None], [FORM, True], [FORM[:9]], [FORM + (0,)], [FORM] * 9,
    [list(FORM)], [FORM[:9] + (True,)], [()], [FORM, FORM[:9]],
)


class ClaimsTest(unittest.TestCase):

    def refused(self, claims, at):
        with self.assertRaises(NoClaims) as told:
            look_claims(ROWS, claims)
        self.assertEqual(told.exception.at, at)
        self.assertNotIsInstance(told.exception.at, bool)

    def test_joins_alone(self):
        self.assertIsNone(look_claims(ROWS, {2: [], 4: []}))
        self.assertIsNone(look_claims(ROWS, {4: [FORM] * 8, 2: [FORM]}))
        self.assertIsNone(look_claims((STOP,), {}))

    def test_further_places(self):
        self.assertIsNone(look_claims(ROWS, {1: [FORM], 2: [], 3: [], 4: [], 5: [FORM] * 8}))

    def test_numbers_of_sixty_figures(self):
        self.assertIsNone(look_claims(ROWS, {2: [(10 ** 60 - 1,) * 10, (1 - 10 ** 60,) * 10], 4: []}))

    def test_a_join_without_a_right_list(self):
        self.refused({}, 2)
        self.refused({2: []}, 4)
        self.refused({4: []}, 2)
        for things in NO_LISTS:
            with self.subTest(things=things):
                self.refused({2: things, 4: []}, 2)
                self.refused({2: [], 4: things}, 4)
                self.refused({2: things, 4: things}, 2)

    def test_another_place_without_a_right_list(self):
        for things in NO_LISTS:
            with self.subTest(things=things):
                self.refused({2: [], 4: [], 3: things}, 3)
                self.refused({5: things, 2: [], 4: [], 1: things}, 1)

    def test_places_that_cannot_be_told(self):
        for place in (-10 ** 59, -1, 0, 6, 7, 300, 10 ** 59):
            with self.subTest(place=place):
                self.refused({2: [], 4: [], place: []}, place)
                self.refused({2: [], 4: [], place: [FORM]}, place)
        self.refused({6: [], 2: [], 4: [], 0: []}, 0)
        self.refused({6: [], 2: [], 4: [], 5: None}, 5)
        self.refused({-3: [], 2: [], 4: [], 1: None}, -3)
        with self.assertRaises(NoClaims) as told:
            look_claims((STOP,), {0: []})
        self.assertEqual(told.exception.at, 0)

    def test_joins_come_ahead_of_lesser_places(self):
        self.refused({0: [], 1: None, 2: []}, 4)
        self.refused({-1: [], 4: []}, 2)

    def test_no_dict(self):
        for claims in (None, True, 0, "", (), [], [[], [], []], ((2, []), (4, [])), Rule()):
            with self.subTest(claims=claims):
                self.refused(claims, None)

    def test_keys_that_are_no_whole_numbers(self):
        for key in (True, False, None, "2", "", (2,), ()):
            with self.subTest(key=key):
                self.refused({2: [], 4: [], key: []}, None)
                self.refused({key: []}, None)
                self.refused({key: None, 0: None, 2: None}, None)

    def test_rows_come_ahead_of_claims(self):
        for claims in (None, {}, {2: [], 4: []}, {True: []}):
            with self.assertRaises(NoRows) as told:
                look_claims((STOP, ("set", 0, 0)), claims)
            self.assertEqual(told.exception.at, 1)

    def test_nothing_is_changed(self):
        claims = {4: [FORM], 2: [], 1: [FORM, FORM]}
        look_claims(ROWS, claims)
        self.assertEqual(list(claims.items()), [(4, [FORM]), (2, []), (1, [FORM, FORM])])


if __name__ == "__main__":
    unittest.main()
