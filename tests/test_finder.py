"""Point 17: papers that are found."""

import copy
import itertools
import random
import unittest
import unittest.mock

from paperrows.finder import found
from paperrows.papers import shows, size

MOST_FIGURES = 10 ** 400


def form(constant, *numbers):
    return (constant, *numbers)


def contrary(one):
    return (-1 - one[0], *[-number for number in one[1:]])


def both_ways(unlike):
    return (unlike[0] - 1, *unlike[1:]), contrary(unlike)


def hold_nowhere(forms):
    """Whether no fractions let all forms be 0 or more: the unknowns are driven out, one by one."""
    forms = set(forms)
    while len(next(iter(forms), (0,))) > 1:
        above = [one for one in forms if one[-1] > 0]
        below = [one for one in forms if one[-1] < 0]
        rest = {one[:-1] for one in forms if one[-1] == 0}
        for one, other in itertools.product(above, below):
            rest.add(tuple(x * -other[-1] + y * one[-1] for x, y in zip(one[:-1], other[:-1])))
        forms = rest
    return any(one[0] < 0 for one in forms)


def is_findable(hints, unlikes, goal):
    """Whether a paper is found, by another way than the program's."""
    if hold_nowhere([contrary(goal), *hints]):
        return True
    if not unlikes:
        return False
    return all(is_findable(hints + [one], unlikes[1:], goal) for one in both_ways(unlikes[0]))


def weights_of(paper):
    """All weights, and all numbers of sums, of a paper."""
    if paper[0] == "sum":
        return [paper[1], *paper[2]]
    if paper[0] == "never":
        return paper[1]
    return weights_of(paper[2]) + weights_of(paper[3])


def aparts_of(paper, done=0):
    """Whether aparts stand in turn, of the first unlike that isn't done yet, and no splits."""
    if paper[0] in ("sum", "never"):
        return True
    return paper[:2] == ("apart", done) and aparts_of(paper[2], done + 1) and aparts_of(paper[3], done + 1)


class FinderTest(unittest.TestCase):

    def found(self, hints, unlikes, goal):
        """A paper that is found, which has to show the goal."""
        held = copy.deepcopy((hints, unlikes, goal))
        paper = found(hints, unlikes, goal)
        self.assertEqual((hints, unlikes, goal), held)
        self.assertIsNotNone(paper)
        self.assertIs(shows(paper, hints, unlikes, goal), True)
        self.assertTrue(aparts_of(paper))
        return paper

    def lacking(self, hints, unlikes, goal):
        self.assertIsNone(found(hints, unlikes, goal))


class SumsTest(FinderTest):

    def test_a_hint_is_the_goal(self):
        self.assertEqual(self.found([(0, 1, 0), (0, 0, 1)], [], (0, 0, 1)), ("sum", 1, [0, 1]))

    def test_several_hints(self):
        self.assertEqual(self.found([(0, 1, -1, 0), (0, 0, 1, -1), (-3, 0, 0, 1)], [], (-3, 1, 0, 0)), ("sum", 1, [1, 1, 1]))
        self.assertEqual(self.found([(0, 1, 0), (0, 0, 1)], [], (7, 2, 5)), ("sum", 1, [2, 5]))
        self.lacking([(0, 1, -1, 0), (0, 0, 1, -1), (-3, 0, 0, 1)], [], (-4, 1, 0, 0))

    def test_k_above_one(self):
        # 2x is 1 or more, so x is.
        self.assertEqual(self.found([(-1, 2)], [], (-1, 1)), ("sum", 2, [1]))
        self.lacking([(-1, 2)], [], (-2, 1))
        self.assertEqual(self.found([(0, 3)], [], (0, 1)), ("sum", 3, [1]))
        paper = self.found([(0, 1, -2), (-1, 1, 1)], [], (-1, 1, 0))
        self.assertEqual(paper, ("sum", 3, [1, 2]))
        self.found([(-2, 3, 5), (-1, 5, -3)], [], (-1, 34, 0))
        self.lacking([(-2, 3, 5), (-1, 5, -3)], [], (-12, 34, 0))

    def test_just_at_the_goal_less_one(self):
        # As fractions the hints come to the goal less 1, and no higher.
        self.lacking([(0, 2)], [], (-1, 2))
        self.found([(0, 2)], [], (0, 2))
        self.lacking([(-1, 2)], [], (-2, 2))
        self.found([(-1, 1)], [], (-1, 1))
        for further in range(-5, 6):
            paper = found([(0, 10)], [], (further, 10))
            self.assertEqual(paper is None, further < 0)
            paper = found([(further, 10)], [], (0, 1))
            self.assertEqual(paper is None, False)

    def test_hints_above_the_goal_by_fractions(self):
        for constant in range(-25, 26):
            # x is constant / 7 or more.
            paper = found([(-constant, 7)], [], (-3, 1))
            self.assertEqual(paper is not None, constant > 14)

    def test_what_holds_of_whole_numbers_alone(self):
        # 2x - 2y is 1, which no whole numbers let be, but fractions do.
        hints = [(-1, 2, -2), (1, -2, 2)]
        self.lacking(hints, [], (-1, 0, 0))
        self.lacking(hints, [], (0, 1, 0))
        self.lacking(hints, [(0, 1, 0)], (-1, 0, 0))
        # x is from 1/3 to 2/3, so no whole number; a sum of both is only 1/3.
        self.lacking([(-1, 3), (2, -3)], [], (-1, 0))
        self.found([(-1, 3), (2, -3)], [], (-1, 1))
        self.found([(-1, 3), (2, -3)], [], (0, -1))

    def test_no_hints(self):
        self.assertEqual(self.found([], [], (0,)), ("sum", 1, []))
        self.assertEqual(self.found([], [], (5, 0, 0)), ("sum", 1, []))
        self.lacking([], [], (-1,))
        self.lacking([], [], (-1, 0, 0))
        self.lacking([], [], (10 ** 9, 1, 0))
        self.lacking([], [], (0, 0, -1))

    def test_goals_of_a_constant_alone(self):
        hints = [(0, 1, 0), (-3, -1, 1)]
        for constant in (0, 1, 10 ** 60 - 1):
            self.found(hints, [], (constant, 0, 0))
            self.found(hints, [(0, 1, 0)], (constant, 0, 0))
        for constant in (-1, -2, -10 ** 60 + 1):
            self.lacking(hints, [], (constant, 0, 0))
            self.lacking(hints, [(0, 0, 1)], (constant, 0, 0))
            self.assertEqual(self.found(hints + [(0, 0, -1)], [], (constant, 0, 0)), ("never", [1, 1, 1]))

    def test_unknowns_that_stand_nowhere(self):
        self.found([(0, 0, 1, 0, 0)], [], (1, 0, 1, 0, 0))
        self.lacking([(0, 0, 1, 0, 0)], [], (1, 0, 1, 0, 1))
        self.lacking([(0, 0, 1, 0, 0)], [], (1, 0, 0, 0, 1))

    def test_the_same_hint_twice(self):
        self.found([(0, 1), (0, 1), (0, 1)], [], (0, 5))
        self.found([(0, 0), (0, 1), (5, 0)], [], (0, 5))


class NeversTest(FinderTest):

    def test_hints_against_one_another(self):
        self.assertEqual(self.found([(0, 1), (-1, -1)], [], (-5, 0)), ("never", [1, 1]))
        self.assertEqual(self.found([(0, 1, 0), (-1, -1, 0)], [], (0, 0, 1)), ("never", [1, 1]))
        self.assertEqual(self.found([(-1, 0, 0)], [], (-7, 3, 4)), ("never", [1]))
        self.assertEqual(self.found([(-1, 2, 0), (0, -1, -1), (0, -3, 3)], [], (-1, 0, 0))[0], "never")
        self.lacking([(0, 1), (0, -1)], [], (-1, 0))

    def test_three_round(self):
        hints = [(-1, 1, -1, 0), (0, 0, 1, -1), (0, -1, 0, 1)]
        self.assertEqual(self.found(hints, [], (-9, 1, 2, 3)), ("never", [1, 1, 1]))
        self.lacking([(0, 1, -1, 0)] + hints[1:], [], (-9, 1, 2, 3))

    def test_weights_other_than_one(self):
        self.assertEqual(self.found([(-1, 2, -3), (0, -4, 6)], [], (-1, 0, 0)), ("never", [2, 1]))


class UnlikesTest(FinderTest):

    def test_one(self):
        # x is 0 or more and isn't 0.
        paper = self.found([(0, 1)], [(0, 1)], (-1, 1))
        self.assertEqual(paper, ("apart", 0, ("sum", 1, [0, 1]), ("never", [1, 1])))
        self.lacking([(0, 1)], [(0, 1)], (-2, 1))
        self.lacking([], [(0, 1)], (-1, 1))
        self.lacking([(0, 1)], [], (-1, 1))

    def test_an_unlike_that_is_not_needed(self):
        self.assertEqual(self.found([(0, 1)], [(0, 1)], (0, 1)), ("sum", 1, [1]))

    def test_two_where_all_are_needed(self):
        # x is from 0 to 2 and neither 0 nor 1.
        hints, goal = [(0, 1), (2, -1)], (-2, 1)
        paper = self.found(hints, [(0, 1), (-1, 1)], goal)
        self.assertEqual(paper[:2], ("apart", 0))
        self.found(hints, [(-1, 1), (0, 1)], goal)
        self.lacking(hints, [(0, 1)], goal)
        self.lacking(hints, [(-1, 1)], goal)
        self.lacking(hints, [(0, 1), (0, 1)], goal)

    def test_where_only_a_later_one_is_needed(self):
        # The first unlike helps nothing, and is done first all the same.
        paper = self.found([(0, 1, 0)], [(0, 0, 1), (0, 1, 0)], (-1, 1, 0))
        self.assertEqual(paper[:2], ("apart", 0))
        self.assertEqual(size(paper), 4)
        paper = self.found([(0, 1, 0)], [(0, 1, 0), (0, 0, 1)], (-1, 1, 0))
        self.assertEqual(size(paper), 2)

    def test_six_where_all_are_needed(self):
        # x is from 0 to 6, and none of 0 to 5.
        unlikes = [(-at, 1) for at in range(6)]
        for order in (unlikes, unlikes[::-1], unlikes[1::2] + unlikes[::2]):
            self.found([(0, 1), (6, -1)], order, (-6, 1))
            for at in range(6):
                self.lacking([(0, 1), (6, -1)], order[:at] + order[at + 1:], (-6, 1))

    def test_six_where_all_sides_are_needed(self):
        # y is at least what the x's are away from 0, all together, less 6: by sides, 64 of them.
        sides = list(itertools.product((1, -1), repeat=6))
        hints = [form(6, 1, *[-side for side in turn]) for turn in sides]
        unlikes = [form(0, 0, *[int(at == k) for at in range(6)]) for k in range(6)]
        paper = self.found(hints, unlikes, form(0, 1, *[0] * 6))
        self.assertEqual(size(paper), 64)
        self.lacking(hints, unlikes, form(-1, 1, *[0] * 6))
        self.lacking(hints, unlikes[:5], form(0, 1, *[0] * 6))
        self.lacking(hints[:-1], unlikes, form(0, 1, *[0] * 6))

    def test_unlikes_that_are_never_so(self):
        self.assertEqual(self.found([], [(0, 0)], (-9, 4)), ("apart", 0, ("never", [1]), ("never", [1])))
        self.lacking([], [(1, 0)], (-9, 4))

    def test_only_whole_numbers_without_unlikes_that_help(self):
        self.lacking([(-1, 2, -2), (1, -2, 2)], [(0, 1, 0), (0, 0, 1), (0, 1, 1)], (-1, 0, 0))
        # With 2x - 2y apart from 1 it is 0 or less, or 2 or more.
        self.found([(-1, 2, -2), (1, -2, 2)], [(-1, 2, -2)], (-1, 0, 0))

    def test_more_than_ten(self):
        unlikes = [(-at, 1) for at in range(12)]
        self.assertEqual(size(self.found([(0, 1), (10, -1)], unlikes, (-10, 1))), 11)
        self.lacking([(0, 1), (12, -1)], unlikes, (-12, 1))


class AgainstAnotherWayTest(FinderTest):

    def numbers(self, chance, many, most):
        return tuple(chance.randint(-most, most) for _ in range(many))

    def test_small_forms(self):
        chance = random.Random(17)
        told = {}
        for _ in range(1500):
            many, most = chance.randint(1, 4), chance.choice((1, 2, 5))
            hints = [self.numbers(chance, many, most) for _ in range(chance.randint(0, 5))]
            unlikes = [self.numbers(chance, many, most) for _ in range(chance.choice((0, 0, 1, 2)))]
            goal = self.numbers(chance, many, most)
            if chance.random() < 0.5 and hints:
                goal = tuple(sum(parts) for parts in zip(*chance.sample(hints, chance.randint(1, len(hints)))))
                if unlikes and chance.random() < 0.5:
                    unlikes[0], goal = goal, form(goal[0] - 1, *goal[1:])
            paper = found(hints, unlikes, goal)
            self.assertEqual(paper is not None, is_findable(hints, unlikes, goal), (hints, unlikes, goal))
            told[paper and paper[0]] = told.get(paper and paper[0], 0) + 1
            if paper is not None:
                self.found(hints, unlikes, goal)
        self.assertGreater(min(told[word] for word in ("sum", "never", "apart", None)), 30, told)

    def test_no_whole_numbers_break_what_is_shown(self):
        chance = random.Random(18)
        for _ in range(300):
            hints = [self.numbers(chance, 3, 3) for _ in range(3)]
            unlikes = [self.numbers(chance, 3, 2) for _ in range(2)]
            goal = self.numbers(chance, 3, 3)
            if found(hints, unlikes, goal) is None:
                continue
            for x, y in itertools.product(range(-6, 7), repeat=2):
                def at(one):
                    return one[0] + one[1] * x + one[2] * y
                if all(at(one) >= 0 for one in hints) and all(at(one) != 0 for one in unlikes):
                    self.assertGreaterEqual(at(goal), 0)

    def test_many_ties(self):
        # Differences alone: many moves gain nothing here.
        chance = random.Random(19)
        for _ in range(60):
            many = chance.choice((6, 12, 40))
            hints = []
            for _ in range(80):
                one, other = chance.sample(range(many), 2)
                hints.append(form(chance.choice((0, 0, 0, 1)), *[int(at == one) - int(at == other) for at in range(many)]))
            goal = tuple(sum(parts) for parts in zip(*chance.sample(hints, 9)))
            self.found(hints, [], goal)
            # All unknowns the same let all hints hold, and the goal come to what it tells of constants alone.
            self.lacking(hints, [], form(-1, *goal[1:]))


    def test_moves_that_never_come_round(self):
        # From the first move on, moves are chosen as they are, else, after many that gain nothing.
        chance = random.Random(25)
        with unittest.mock.patch("paperrows.corners.PATIENCE", -1):
            for _ in range(300):
                many = chance.randint(1, 4)
                hints = [self.numbers(chance, many, 2) for _ in range(chance.randint(0, 6))]
                unlikes = [self.numbers(chance, many, 2) for _ in range(chance.choice((0, 0, 1)))]
                goal = self.numbers(chance, many, 2)
                if is_findable(hints, unlikes, goal):
                    self.found(hints, unlikes, goal)
                else:
                    self.lacking(hints, unlikes, goal)


class GreatTest(FinderTest):

    MOST = 9999999

    def dense(self, chance, many, unknowns, holding=None):
        """Forms of seven figures; where worths are handed in, they all hold there."""
        told = []
        for _ in range(many):
            numbers = [chance.randint(-self.MOST, self.MOST) for _ in range(unknowns)]
            constant = chance.randint(-self.MOST, self.MOST)
            if holding is not None:
                constant = chance.randint(0, 1000) - sum(number * worth for number, worth in zip(numbers, holding))
            told.append(form(constant, *numbers))
        return told

    def few_figures(self, paper):
        for weight in weights_of(paper):
            self.assertLess(weight, MOST_FIGURES)

    def test_seven_figures_of_forty_unknowns(self):
        chance = random.Random(20)
        for holding in (None, [chance.choice((-1, 0, 1)) for _ in range(40)]):
            hints = self.dense(chance, 80, 40, holding)
            goal = tuple(sum(parts) // 3 for parts in zip(*hints[10:70:7]))
            paper = found(hints, [], goal)
            if paper is not None:
                self.few_figures(self.found(hints, [], goal))
            goal = form(sum(one[0] for one in hints[::9]), *[sum(one[at] for one in hints[::9]) for at in range(1, 41)])
            self.few_figures(self.found(hints, [], goal))

    def test_basis_of_forty_hints(self):
        # Just forty hints, so the weights are those of the one way in which they come to the goal.
        chance = random.Random(21)
        hints = self.dense(chance, 40, 40)
        total = [sum(one[at] * (at_hint + 1) for at_hint, one in enumerate(hints)) for at in range(41)]
        self.assertEqual(self.found(hints, [], tuple(total)), ("sum", 1, list(range(1, 41))))
        self.lacking(hints, [], form(total[0] - 1, *total[1:]))
        wide = self.dense(chance, 40, 40, [0] * 40)
        goal = form(10 ** 6, *wide[0][1:])
        self.few_figures(self.found(wide + [form(0, *[-sum(one[at] for one in wide) for at in range(1, 41)])], [], goal))

    def test_six_unlikes_of_forty_unknowns(self):
        chance = random.Random(22)
        sides = list(itertools.product((1, -1), repeat=6))
        hints = [form(6, 1, *[-side for side in turn], *[0] * 33) for turn in sides]
        for _ in range(16):
            hints.append(form(chance.randint(0, 50), *[chance.randint(-9, 9) for _ in range(40)]))
        unlikes = [form(0, *[int(at == k + 1) for at in range(40)]) for k in range(6)]
        goal = form(0, 1, *[0] * 39)
        # All unknowns are told by forty others, so that each form hangs on all of them.
        mixed = [[chance.randint(-10 ** 4, 10 ** 4) for _ in range(40)] for _ in range(40)]

        def by_others(one):
            return form(one[0], *[sum(one[k + 1] * mixed[k][at] for k in range(40)) for at in range(40)])
        hints, unlikes = [by_others(one) for one in hints], [by_others(one) for one in unlikes]
        chance.shuffle(hints)
        paper = self.found(hints, unlikes, by_others(goal))
        self.assertEqual(size(paper), 64)
        self.few_figures(paper)
        self.lacking(hints, unlikes[:-1], by_others(goal))

    def test_four_hundred_figures_all_together(self):
        # Three hints and the goal, all forms together of at most four hundred figures, one more for each counted.
        chance = random.Random(23)
        for _ in range(20):
            lengths = [chance.randint(20, 150) for _ in range(3)]
            # The goal may have what is left, when three hints of one figure are there, too.
            rest = 400 - sum(length + 1 for length in lengths) - 3 * 2 - 1
            if rest < 1:
                continue
            hints = [form(chance.randint(0, 10 ** length - 1), *[chance.randint(0, 10 ** length - 1) for _ in range(3)])
                     for length in lengths]
            goal = form(0, *[chance.randint(0, 10 ** min(rest, 100) - 1) for _ in range(3)])
            hints += [(0, 1, 0, 0), (0, 0, 1, 0), (0, 0, 0, 1)]
            paper = found(hints, [], goal)
            if paper is not None:
                self.few_figures(self.found(hints, [], goal))

    def test_sixty_figures(self):
        great = 10 ** 60 - 1
        self.assertEqual(self.found([(-1, great)], [], (-1, 1)), ("sum", great, [1]))
        self.assertEqual(self.found([(0, 1, -great), (0, 0, 1)], [], (0, 1, 0)), ("sum", 1, [1, great]))
        paper = self.found([(great, great, -great + 1), (-great, 1 - great, great)], [], (0, 1, 1))
        self.assertIn(paper[0], ("sum", "never"))

    def test_chains_of_forty(self):
        # x0 is 2 or more, and each further unknown is at least twice the one ahead of it.
        hints = [form(-2, 1, *[0] * 39)]
        for at in range(39):
            hints.append(form(0, *[-2 if k == at else int(k == at + 1) for k in range(40)]))
        hints += [form(5, *[int(k == at) for k in range(40)]) for at in range(40)]
        self.found(hints, [], form(-2 ** 40, *[0] * 39, 1))
        self.lacking(hints, [], form(-2 ** 40 - 1, *[0] * 39, 1))
        halves = [form(-1, *[2 if k == at else -int(k == at + 1) for k in range(40)]) for at in range(39)]
        self.found(halves + [form(0, *[0] * 39, 1)], [], form(-1, 1, *[0] * 39))


class SameTest(FinderTest):

    def test_the_same_of_the_same_things(self):
        chance = random.Random(24)
        for _ in range(50):
            hints = [tuple(chance.randint(-2, 2) for _ in range(4)) for _ in range(6)]
            unlikes = [tuple(chance.randint(-2, 2) for _ in range(4)) for _ in range(2)]
            goal = tuple(chance.randint(-2, 2) for _ in range(4))
            told = found(hints, unlikes, goal)
            self.assertEqual(found(goal=goal, unlikes=list(unlikes), hints=list(hints)), told)

    def test_found_lists_are_the_askers_own(self):
        told = found([(0, 1)], [(0, 1)], (-1, 1))
        held = copy.deepcopy(told)
        told[2][2].append(5)
        told[3][1].clear()
        self.assertEqual(found([(0, 1)], [(0, 1)], (-1, 1)), held)


if __name__ == "__main__":
    unittest.main()
