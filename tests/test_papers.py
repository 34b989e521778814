"""Point 15: papers, what they show, and their size."""

import copy
import unittest

from paperrows.bundles import Bundle
from paperrows.errors import NoPapers
from paperrows.papers import shows, size
from paperrows.rules import Rule

# Forms of the unknowns x and y.
ONE = (1, 0, 0)
NOUGHT = (0, 0, 0)
X = (0, 1, 0)
Y = (0, 0, 1)
X_LESS_Y = (0, 1, -1)
Y_LESS_X = (0, -1, 1)
MINUS_X = (0, -1, 0)
BELOW = ("never", [1, 1])

NO_PAPERS = (
    None, True, False, 0, 1, "", "sum", "never", (), [], {}, ("sum",), ("never",), (1,), (None, 1, []), ((), 1, []),
    (["sum"], 1, []), ({}, []), ("sum", 1), ("sum", 1, [], []), ["sum", 1, []], ["never", []], ("Sum", 1, []),
    ("sum", 0, []), ("sum", -1, []), ("sum", True, []), ("sum", None, []), ("sum", "1", []), ("sum", [1], []),
    ("sum", 1, ()), ("sum", 1, None), ("sum", 1, {}), ("sum", 1, "[]"), ("sum", [], 1), ("sum", 1, [-1]),
    ("sum", 1, [True]), ("sum", 1, [False]), ("sum", 1, [None]), ("sum", 1, ["0"]), ("sum", 1, [[]]), ("sum", 1, [0, -1]),
    ("never", ()), ("never", [], []), ("never", [-1]), ("never", [True]), ("never", None), ("never", 1), ("never", [()]),
    ("split",), ("split", X), ("split", X, BELOW), ("split", X, BELOW, BELOW, BELOW), ["split", X, BELOW, BELOW],
    ("split", (), BELOW, BELOW), ("split", list(X), BELOW, BELOW), ("split", (0, True, 0), BELOW, BELOW),
    ("split", None, BELOW, BELOW), ("split", X, BELOW, None), ("split", X, (), BELOW), ("split", X, [BELOW], BELOW),
    ("split", X, list(BELOW), BELOW), ("split", X, BELOW, ("never", (1, 1))), ("split", X, BELOW, ("sum", 0, [1])),
    ("apart",), ("apart", 0), ("apart", 0, BELOW), ("apart", 0, BELOW, BELOW, BELOW), ["apart", 0, BELOW, BELOW],
    ("apart", -1, BELOW, BELOW), ("apart", True, BELOW, BELOW), ("apart", False, BELOW, BELOW),
    ("apart", None, BELOW, BELOW), ("apart", "0", BELOW, BELOW), ("apart", X, BELOW, BELOW), ("apart", 0, None, BELOW),
    ("apart", 0, BELOW, ("never", [1, -1])), ("other", [1]), Rule(), Bundle((("stop",),), {}), (Rule(), [1]), [[]] * 4,
    (Bundle((("stop",),), {}), 1, []),
)


def within(many, inner, word="split"):
    """A paper with so many splits or aparts within one another."""
    told = inner
    for _ in range(many):
        told = (word, X if word == "split" else 0, told, inner)
    return told


class SumTest(unittest.TestCase):

    def shown(self, told, paper, hints, goal, unlikes=()):
        found = shows(paper, list(hints), list(unlikes), goal)
        self.assertIs(found, told, (paper, hints, goal))

    def test_once_the_goal(self):
        self.shown(True, ("sum", 1, [1]), [X], X)
        self.shown(True, ("sum", 1, [1, 1]), [X_LESS_Y, Y], X)
        self.shown(True, ("sum", 1, [1, 0]), [X, Y], (3, 1, 0))
        self.shown(True, ("sum", 1, [2, 3]), [X, Y], (0, 2, 3))
        self.shown(False, ("sum", 1, [2, 3]), [X, Y], (-1, 2, 3))
        self.shown(False, ("sum", 1, [1, 0]), [X, Y], Y)
        self.shown(False, ("sum", 1, [0, 0]), [X, Y], X)
        self.shown(False, ("sum", 1, [1, 1]), [X, Y], X)
        self.shown(False, ("sum", 2, [1]), [X], X)

    def test_constant_of_minus_k_and_one_above(self):
        # k times the goal less the hints comes to the constant.
        for k in (1, 2, 7, 10 ** 59):
            for constant, told in ((-k - 1, False), (-k, False), (-k + 1, True), (0, True), (1, True), (k, True)):
                with self.subTest(k=k, constant=constant):
                    self.shown(told, ("sum", k, [1]), [(-constant, k, 0)], X)
                    self.shown(told, ("sum", k, [k, 1]), [X, (-constant, 0, 0)], X)

    def test_k_above_one(self):
        # 2x is 1 or more, so x is, too, being whole.
        self.shown(True, ("sum", 2, [1]), [(-1, 2, 0)], (-1, 1, 0))
        self.shown(False, ("sum", 1, [1]), [(-1, 2, 0)], (-1, 1, 0))
        self.shown(False, ("sum", 2, [1]), [(-1, 2, 0)], (-2, 1, 0))
        self.shown(True, ("sum", 3, [1, 2]), [(0, 1, -2), (-1, 1, 1)], (-1, 1, 0))

    def test_no_hints(self):
        self.shown(True, ("sum", 1, []), [], NOUGHT)
        self.shown(True, ("sum", 5, []), [], (7, 0, 0))
        self.shown(False, ("sum", 1, []), [], (-1, 0, 0))
        self.shown(False, ("sum", 10 ** 9, []), [], (-1, 0, 0))
        self.shown(False, ("sum", 1, []), [], X)
        self.shown(True, ("sum", 1, []), [], (0,))
        self.shown(False, ("sum", 1, []), [], (-1,))

    def test_weights_too_few_and_too_many(self):
        for weights in ([], [1], [1, 0, 0], [1, 0, 0, 0]):
            self.shown(False, ("sum", 1, weights), [X, Y], X)
        self.shown(False, ("sum", 1, [0]), [], NOUGHT)

    def test_wrong_numbers(self):
        for k in (0, -1, True, False, None, "1", [1], (1,)):
            self.shown(False, ("sum", k, [1]), [X], X)
            self.shown(False, ("sum", k, []), [], ONE)
        for weights in ([True], [False], [None], ["1"], (1,), {0: 1}, "1", 1, None, [[1]]):
            self.shown(False, ("sum", 1, weights), [X], X)
        self.shown(False, ("sum", 1, [-1]), [MINUS_X], X)
        self.shown(False, ("sum", 1, [1, -1]), [X, ONE], (-1, 1, 0))
        self.shown(False, ("sum", 1, [0, False]), [X, Y], NOUGHT)

    def test_great_numbers(self):
        great = 10 ** 500 - 1
        self.shown(True, ("sum", great, [1, 0]), [(0, great, 0), Y], X)
        self.shown(False, ("sum", great, [1, 0]), [(0, great, 1), Y], X)
        self.shown(True, ("sum", 1, [great, great]), [X, Y], (0, great, great))


class NeverTest(unittest.TestCase):

    def test_constants(self):
        for constant, told in ((-2, True), (-1, True), (0, False), (1, False)):
            self.assertIs(shows(("never", [1, 1]), [X, (constant, -1, 0)], [], Y), told)
        self.assertIs(shows(("never", [1]), [(-1, 0, 0)], [], X), True)

    def test_unknowns_that_stay(self):
        self.assertIs(shows(("never", [1, 1]), [X, (-1, 1, 0)], [], Y), False)
        self.assertIs(shows(("never", [2, 1]), [X, (-1, -2, 0)], [], Y), True)
        self.assertIs(shows(("never", [1, 1]), [X, (-1, -2, 0)], [], Y), False)
        self.assertIs(shows(("never", [1, 1, 0]), [X, (-1, -1, 0), Y], [], Y), True)
        self.assertIs(shows(("never", [1, 1, 1]), [X, (-1, -1, 0), Y], [], Y), False)

    def test_no_hints(self):
        self.assertIs(shows(("never", []), [], [], X), False)
        self.assertIs(shows(("never", []), [], [], (-1, 0, 0)), False)

    def test_weights(self):
        hints = [X, (-1, -1, 0)]
        for weights in ([1], [1, 1, 0], [], (1, 1), [True, True], [1, True], None, [1, None], "11"):
            self.assertIs(shows(("never", weights), hints, [], Y), False)
        self.assertIs(shows(("never", [1, -1]), [X, (1, 1, 0)], [], Y), False)


class SplitTest(unittest.TestCase):

    # Where y is 0 or more, x is by the first hint, else by the second one.
    HINTS = [X_LESS_Y, (0, 1, 1)]
    FIRST = ("sum", 1, [1, 0, 1])
    OTHER = ("sum", 1, [0, 1, 1])

    def test_the_form_is_the_last_hint(self):
        self.assertIs(shows(("split", Y, self.FIRST, self.OTHER), self.HINTS, [], X), True)
        self.assertIs(shows(("split", Y, self.OTHER, self.FIRST), self.HINTS, [], X), False)
        self.assertIs(shows(("split", Y, self.FIRST, self.FIRST), self.HINTS, [], X), False)
        self.assertIs(shows(("split", Y, self.OTHER, self.OTHER), self.HINTS, [], X), False)
        self.assertIs(shows(("split", Y, ("sum", 1, [1, 1, 0]), self.OTHER), self.HINTS, [], X), False)
        self.assertIs(shows(("split", Y, ("sum", 1, [1, 0]), ("sum", 1, [0, 1])), self.HINTS, [], X), False)
        self.assertIs(shows(("split", Y, ("sum", 2, [1, 1, 0]), ("sum", 2, [1, 1, 0])), self.HINTS, [], X), True)

    def test_the_contrary(self):
        # The contrary of y is -1 - y, so x is 1 or more there.
        self.assertIs(shows(("split", Y, self.FIRST, self.OTHER), self.HINTS, [], (-1, 1, 0)), False)
        self.assertIs(shows(("split", (-1, 0, 1), self.FIRST, self.OTHER), self.HINTS, [], X), True)
        self.assertIs(shows(("split", (-1, 0, 1), self.FIRST, self.OTHER), self.HINTS, [], (-1, 1, 0)), False)

    def test_forms_of_other_lengths(self):
        for form in ((0,), (0, 0), (0, 0, 1, 0), (), [0, 0, 1], (0, 0, True), None, 1, "y"):
            self.assertIs(shows(("split", form, self.FIRST, self.OTHER), self.HINTS, [], X), False)

    def test_splits_within_one_another(self):
        inner = ("split", X, ("sum", 1, [0, 0, 0, 1]), ("never", [1, 0, 1, 1]))
        self.assertIs(shows(("split", Y, inner, self.OTHER), self.HINTS, [], X), True)
        self.assertIs(shows(("split", Y, self.OTHER, inner), self.HINTS, [], X), False)
        wrong = ("split", X, ("sum", 1, (0, 0, 0, 1)), ("never", [1, 0, 1, 1]))
        self.assertIs(shows(("split", Y, wrong, self.OTHER), self.HINTS, [], X), False)
        wrong = ("split", X, ("sum", 1, [0, 0, 0, 1]), ["never", [1, 0, 1, 1]])
        self.assertIs(shows(("split", Y, wrong, self.OTHER), self.HINTS, [], X), False)


class ApartTest(unittest.TestCase):

    # x is from 0 to 2 and is neither 0 nor 1: so it is 2.
    HINTS = [X, (2, -1, 0)]
    UNLIKES = [X, (-1, 1, 0)]
    GOAL = (-2, 1, 0)

    # By the first unlike x is 1 or more, or -1 or less; by the second one 2 or more, or 0 or less.
    PAPER = ("apart", 0, ("apart", 1, ("sum", 1, [0, 0, 0, 1]), ("never", [0, 0, 1, 1])), ("never", [1, 0, 1]))

    def test_forms_of_both_ways(self):
        self.assertIs(shows(("apart", 0, ("sum", 1, [0, 0, 1]), ("never", [1, 0, 1])), self.HINTS, [X], (-1, 1, 0)), True)
        self.assertIs(shows(("apart", 0, ("sum", 1, [0, 0, 1]), ("never", [1, 0, 1])), self.HINTS, [X], self.GOAL), False)
        self.assertIs(shows(("apart", 0, ("never", [1, 0, 1]), ("sum", 1, [0, 0, 1])), self.HINTS, [X], (-1, 1, 0)), False)
        # The unlike less 1 is first, -1 less it the other one.
        self.assertIs(shows(("apart", 0, ("sum", 1, [1]), ("sum", 1, [0])), [], [Y], (-1, 0, 1)), False)
        self.assertIs(shows(("apart", 0, ("sum", 1, [1, 0]), ("never", [1, 1])), [Y], [Y], (-1, 0, 1)), False)
        self.assertIs(shows(("apart", 0, ("sum", 1, [0, 1]), ("never", [1, 1])), [Y], [Y], (-1, 0, 1)), True)
        self.assertIs(shows(("apart", 0, ("never", [1, 1]), ("sum", 1, [0, 1])), [(0, 0, -1)], [Y], (-1, 0, -1)), True)

    def test_several_unlikes(self):
        self.assertIs(shows(self.PAPER, self.HINTS, self.UNLIKES, self.GOAL), True)
        self.assertIs(shows(self.PAPER, self.HINTS, self.UNLIKES[::-1], self.GOAL), False)
        self.assertIs(shows(self.PAPER, self.HINTS, self.UNLIKES[:1], self.GOAL), False)

    def test_the_same_unlike_twice(self):
        twice = ("apart", 0, ("apart", 0, ("sum", 1, [0, 0, 0, 1]), ("never", [0, 0, 1, 1])), ("never", [1, 0, 1]))
        self.assertIs(shows(twice, self.HINTS, [X], (-1, 1, 0)), True)

    def test_numbers_that_are_no_unlikes(self):
        leaves = (("sum", 1, [0, 0, 1]), ("never", [1, 0, 1]))
        for number, told in ((0, True), (1, False), (2, False), (-1, False), (10 ** 59, False), (True, False),
                             (False, False), (None, False), ("0", False), ((0,), False)):
            self.assertIs(shows(("apart", number, *leaves), self.HINTS, [X], (-1, 1, 0)), told)
        self.assertIs(shows(("apart", 0, *leaves), self.HINTS, [], (-1, 1, 0)), False)
        self.assertIs(shows(("apart", -1, *leaves), self.HINTS, [Y, X], (-1, 1, 0)), False)
        self.assertIs(shows(("apart", True, *leaves), self.HINTS, [Y, X], (-1, 1, 0)), False)
        self.assertIs(shows(("apart", 1, *leaves), self.HINTS, [Y, X], (-1, 1, 0)), True)


class WithinTest(unittest.TestCase):

    def paper(self, many, words):
        """A paper that shows 0, with so many splits and aparts, within the first or the other one in turn."""
        leaves = [("sum", 1, [0] * hints) for hints in range(many + 1)]
        told = leaves[many]
        for at in range(many - 1, -1, -1):
            parts = (told, leaves[at + 1]) if at % 3 else (leaves[at + 1], told)
            word = words[at % len(words)]
            told = (word, X if word == "split" else 0, *parts)
        return told

    def test_ten_and_eleven(self):
        for words in (["split"], ["apart"], ["split", "apart"]):
            for many, told in ((0, True), (1, True), (9, True), (10, True), (11, False), (12, False), (14, False)):
                paper = self.paper(many, words)
                self.assertIs(shows(paper, [], [Y], NOUGHT), told)
                if told:
                    self.assertEqual(size(paper), many + 1)
                else:
                    with self.assertRaises(NoPapers):
                        size(paper)

    def test_many_beside_one_another(self):
        def whole(depth, many):
            leaf = ("sum", 1, [0] * depth)
            return leaf if depth == many else ("split", X, whole(depth + 1, many), whole(depth + 1, many))
        self.assertIs(shows(whole(0, 7), [], [], NOUGHT), True)
        self.assertEqual(size(whole(0, 7)), 128)


class AnythingTest(unittest.TestCase):

    def test_what_is_no_paper_shows_nothing(self):
        for paper in NO_PAPERS:
            for hints, goal in (([], NOUGHT), ([X], X), ([X, (-1, -1, 0)], ONE)):
                with self.subTest(paper=paper):
                    self.assertIs(shows(paper, hints, [X], goal), False)
                    self.assertIs(shows(("split", X, ("sum", 1, [0] * (len(hints) + 1)), paper), hints, [X], goal), False)
                    self.assertIs(shows(("apart", 0, paper, ("sum", 1, [0] * (len(hints) + 1))), hints, [X], goal), False)

    def test_great_and_deep_things(self):
        deep = ()
        for _ in range(29):
            deep = (deep,)
        for paper in ([0] * 39000, ("sum", 1, [0] * 39000), ("never", [deep]), deep, "x" * 20000, {at: 0 for at in range(999)}):
            self.assertIs(shows(paper, [], [], NOUGHT), False)

    def test_what_is_handed_in_stays(self):
        paper, hints, unlikes = ApartTest.PAPER, list(ApartTest.HINTS), list(ApartTest.UNLIKES)
        held = copy.deepcopy((paper, hints, unlikes))
        self.assertTrue(shows(paper, hints, unlikes, ApartTest.GOAL))
        self.assertFalse(shows(("split", X, paper, paper), hints, unlikes, ApartTest.GOAL))
        self.assertEqual((paper, hints, unlikes), held)

    def test_by_names(self):
        self.assertTrue(shows(goal=X, unlikes=[], hints=[X], paper=("sum", 1, [1])))


class SizeTest(unittest.TestCase):

    def test_sizes(self):
        one = ("sum", 1, [])
        for paper, told in (
            (one, 1), (("sum", 10 ** 59, [0, 5]), 1), (("never", []), 1), (("never", [1, 2, 3]), 1),
            (("split", X, one, BELOW), 2), (("split", (5,), BELOW, BELOW), 2), (("apart", 0, one, one), 2),
            (("apart", 10 ** 59, BELOW, one), 2), (("split", X, ("apart", 7, one, one), BELOW), 3),
            (("apart", 1, ("split", X, one, one), ("split", Y, one, ("apart", 1, one, BELOW))), 5),
        ):
            with self.subTest(paper=paper):
                self.assertEqual(size(paper), told)

    def test_hints_and_goals_are_not_asked(self):
        self.assertEqual(size(("split", X, ("sum", 1, [1] * 9), ("never", []))), 2)

    def test_what_is_none(self):
        for paper in NO_PAPERS:
            with self.subTest(paper=paper):
                for thing in (paper, ("split", X, BELOW, paper), ("apart", 0, paper, BELOW)):
                    with self.assertRaises(NoPapers):
                        size(thing)

    def test_ten_and_eleven(self):
        for word in ("split", "apart"):
            self.assertEqual(size(within(10, BELOW, word)), 11)
            with self.assertRaises(NoPapers):
                size(within(11, BELOW, word))


if __name__ == "__main__":
    unittest.main()
