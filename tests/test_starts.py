"""Point 10: whether p and a memory are a start of a rule."""

import copy
import unittest

from paperrows.rules import Rule, is_start

MOST = 1000000
P0 = (0, 1, 0, 0)
P1 = (0, 0, 1, 0)


def constant(number):
    return (number, 0, 0, 0)


def area(first, end, low=None, high=None, rights="read"):
    return (constant(first), constant(end), rights, low, high)


class StartTest(unittest.TestCase):

    def start(self, rule, p, memory):
        told = is_start(rule, p, memory)
        self.assertIs(type(told), bool)
        return told

    def test_plain_start(self):
        self.assertTrue(self.start(Rule(), (0, 0, 0), {}))
        self.assertTrue(self.start(Rule(), [1, -2, 3], {5: 6, -7: -8}))

    def test_what_is_given_holds(self):
        rule = Rule([(-5, 1, 0, 0), (3, 0, -1, 1)])
        self.assertTrue(self.start(rule, (5, 3, 0), {}))
        self.assertFalse(self.start(rule, (4, 3, 0), {}))
        self.assertTrue(self.start(rule, (6, 5, 2), {}))
        self.assertFalse(self.start(rule, (5, 4, 0), {}))
        self.assertTrue(self.start(Rule([constant(0)]), (0, 0, 0), {}))
        self.assertFalse(self.start(Rule([constant(-1)]), (0, 0, 0), {}))

    def test_areas_lie_in_their_order(self):
        self.assertTrue(self.start(Rule(areas=[area(7, 7)]), (0, 0, 0), {}))
        self.assertFalse(self.start(Rule(areas=[area(7, 6)]), (0, 0, 0), {}))
        self.assertTrue(self.start(Rule(areas=[area(1, 4), area(4, 6)]), (0, 0, 0), {}))
        self.assertFalse(self.start(Rule(areas=[area(1, 4), area(3, 6)]), (0, 0, 0), {}))
        moved = Rule(areas=[(P0, P1, "both", None, None)])
        self.assertTrue(self.start(moved, (3, 3, 0), {}))
        self.assertFalse(self.start(moved, (4, 3, 0), {}))

    def test_high_is_not_less_than_low(self):
        # There is no place in the area that could hold a wrong worth.
        self.assertTrue(self.start(Rule(areas=[area(3, 3, P0, P1)]), (2, 2, 0), {}))
        self.assertFalse(self.start(Rule(areas=[area(3, 3, P0, P1)]), (3, 2, 0), {}))

    def test_numbers_of_p(self):
        for at in range(3):
            for number, told in ((MOST, True), (-MOST, True), (MOST + 1, False), (-MOST - 1, False), (10 ** 59, False)):
                p = [0, 0, 0]
                p[at] = number
                self.assertIs(self.start(Rule(), p, {}), told)
                self.assertIs(self.start(Rule(), tuple(p), {}), told)

    def test_what_is_no_p(self):
        wrong = (
            (), (0, 0), (0, 0, 0, 0), [], [0, 0], [0, 0, 0, 0], None, True, 0, "000", "", {}, {0: 0, 1: 0, 2: 0},
            (0, 0, None), (0, "0", 0), ([0], 0, 0), (0, 0, True), (False, 0, 0), [0, True, 0], [None] * 3, Rule(),
        )
        for p in wrong:
            with self.subTest(p=p):
                self.assertFalse(self.start(Rule(), p, {}))

    def test_worths_at_low_and_high_and_beyond(self):
        rule = Rule(areas=[area(10, 13, P0, P1)])
        for held, told in ((-2, False), (-1, True), (0, True), (4, True), (5, False)):
            for place in (10, 11, 12):
                with self.subTest(held=held, place=place):
                    self.assertIs(self.start(rule, (-1, 4, 0), {place: held}), told)

    def test_worths_just_outside_of_the_area(self):
        rule = Rule(areas=[area(10, 13, constant(0), constant(4))])
        for place in (9, 13):
            self.assertTrue(self.start(rule, (0, 0, 0), {place: 5, 11: 4}))
            self.assertTrue(self.start(rule, (0, 0, 0), {place: -1, 11: 4}))
        self.assertFalse(self.start(rule, (0, 0, 0), {9: 5, 13: 5, 11: 5}))

    def test_places_without_a_number_hold_nought(self):
        self.assertTrue(self.start(Rule(areas=[area(1, 3, constant(0), constant(0))]), (0, 0, 0), {}))
        wants_more = Rule(areas=[area(1, 3, constant(1), constant(2))])
        self.assertFalse(self.start(wants_more, (0, 0, 0), {}))
        self.assertFalse(self.start(wants_more, (0, 0, 0), {1: 1}))
        self.assertFalse(self.start(wants_more, (0, 0, 0), {2: 1}))
        self.assertTrue(self.start(wants_more, (0, 0, 0), {1: 1, 2: 2}))
        self.assertFalse(self.start(Rule(areas=[area(1, 2, constant(-2), constant(-1))]), (0, 0, 0), {}))

    def test_each_area_counts(self):
        bounded = (constant(0), constant(4))
        rule = Rule(areas=[area(0, 2), area(2, 4, *bounded), area(6, 8, *bounded, rights="both")])
        self.assertTrue(self.start(rule, (0, 0, 0), {0: 9, 1: -9, 4: 9, 5: 9, 8: 9}))
        for place in (2, 3, 6, 7):
            self.assertFalse(self.start(rule, (0, 0, 0), {place: 5}))

    def test_numbers_of_the_memory(self):
        for number, told in ((MOST, True), (-MOST, True), (MOST + 1, False), (-MOST - 1, False)):
            self.assertIs(self.start(Rule(), (0, 0, 0), {number: 0}), told)
            self.assertIs(self.start(Rule(), (0, 0, 0), {0: number}), told)

    def test_truths_in_the_memory(self):
        for truth in (True, False):
            self.assertFalse(self.start(Rule(), (0, 0, 0), {truth: 0}))
            self.assertFalse(self.start(Rule(), (0, 0, 0), {0: truth}))
            self.assertFalse(self.start(Rule(areas=[area(0, 2, P0, P1)]), (0, 1, 0), {1: truth}))

    def test_what_is_no_memory(self):
        for memory in ((), [], None, True, 0, "", "ab", [(0, 0)], ((0, 0),), Rule(), {0: None}, {None: 0}, {"0": 0},
                       {0: "0"}, {(0,): 0}, {0: [0]}, {0: {}}, {1: 1, 2: "x"}):
            with self.subTest(memory=memory):
                self.assertFalse(self.start(Rule(), (0, 0, 0), memory))

    def test_four_hundred_places(self):
        for bounds in ((None, None), (constant(0), constant(1))):
            self.assertTrue(self.start(Rule(areas=[area(5, 405, *bounds)]), (0, 0, 0), {}))
            self.assertFalse(self.start(Rule(areas=[area(5, 406, *bounds)]), (0, 0, 0), {}))
        self.assertFalse(self.start(Rule(areas=[area(0, 1), area(2, 10 ** 59)]), (0, 0, 0), {}))
        self.assertFalse(self.start(Rule(areas=[area(0, 10 ** 59, P0, P0)]), (0, 0, 0), {}))

    def test_areas_beyond_the_numbers_of_a_memory(self):
        far = 10 ** 59
        self.assertTrue(self.start(Rule(areas=[area(far, far + 400, constant(0), constant(0))]), (0, 0, 0), {}))
        self.assertFalse(self.start(Rule(areas=[area(far, far + 400, constant(1), constant(1))]), (0, 0, 0), {}))

    def test_what_is_no_rule(self):
        for rule in (None, True, 0, "", "rule", (), [], {}, ((), (), ()), (0, 0, 0), Rule):
            with self.subTest(rule=rule):
                self.assertFalse(self.start(rule, (0, 0, 0), {}))
                self.assertFalse(self.start(rule, None, None))

    def test_what_is_handed_in_stays(self):
        rule = Rule([P0], [area(1, 3, P0, P1)])
        p, memory = [0, 4, 0], {3: 9, 1: 4}
        held = copy.deepcopy((rule.given, rule.areas, rule.ends))
        self.assertTrue(is_start(rule, p, memory))
        self.assertEqual(p, [0, 4, 0])
        self.assertEqual(list(memory.items()), [(3, 9), (1, 4)])
        self.assertEqual((rule.given, rule.areas, rule.ends), held)


if __name__ == "__main__":
    unittest.main()
