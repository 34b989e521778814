"""Points 23 and 25: ways are led on over jumps."""

import random

import chance as by_chance
import reference
from by_text import claims, given
from paperrows.bundles import Bundle
from paperrows.finder import shown
from paperrows.leading import led_on
from paperrows.papers import size
from paperrows.rules import Rule
from pass_checks import STOP, PassTest


def within(many, paper, length=10):
    """A paper with so many splits within one another, each at a form of its own, round another one's leaves."""
    if many == 0:
        return paper
    form = (many,) + (0,) * (length - 1)
    further = (*paper[:-1], paper[-1] + [0])
    return ("split", form, within(many - 1, further, length), further)


class LedOnTest(PassTest):

    def led(self, bundle, rule):
        told = self.passed(led_on, bundle, rule, most_starts=12)
        self.assertEqual(told.claims(), bundle.claims())
        self.sizes(bundle, told, rule)
        return told

    def sizes(self, bundle, told, rule):
        """Each way of the new rows is a way of the elder ones, over some jumps, and no greater than the point tells."""
        rows, shares = bundle.rows, reference.papers_by_row(bundle, rule)
        new = reference.papers_by_row(told, rule)
        for at, row in enumerate(rows):
            if row[0] not in by_chance.LEADS:
                self.assertEqual(told.rows[at], row)
                continue
            mine = [paper for _, paper in shares.get(at, [])][:len(bundle.claims()[row[-1]])]
            most, place = [size(paper) for paper in mine], row[-1]
            while told.rows[at] != (*row[:-1], place) and (told.rows[at] != STOP or rows[place] != STOP):
                self.assertEqual(rows[place][0], "jump")
                most = [size(paper) + sum(most) for _, paper in shares.get(place, [])]
                place = rows[place][1]
            if told.rows[at] == STOP:
                most = [size(paper) + sum(most) for _, paper in shares.get(place, [])]
            if at in new:
                sizes = [size(paper) for _, paper in new[at]][:len(most)]
                self.assertEqual(len(sizes), len(most))
                self.assertTrue(all(one <= other for one, other in zip(sizes, most)), (sizes, most))

    def rows_led(self, rows, told_claims, expected, rule=Rule()):
        bundle = shown(rows, told_claims, rule)
        told = self.led(bundle, rule)
        self.assertEqual(told.rows, expected)
        self.assertEqual(led_on(told, rule), told)
        return told

    def test_each_word_over_a_jump(self):
        for row in (("jump", 3), ("below", 0, 1, 3), ("same", 3, 4, 3)):
            rows = (row, STOP, STOP, ("jump", 5), STOP, ("set", 4, 1), STOP)
            self.rows_led(rows, {3: [], 5: []}, ((*row[:-1], 5), *rows[1:]))
            self.rows_led(rows, {3: claims("1", "p0 - p0"), 5: claims("0", "7")}, ((*row[:-1], 5), *rows[1:]))

    def test_chains(self):
        for many in range(2, 7):
            for told in ([], claims("r3"), claims("r3", "2*r3", "p0 - r0", "r0 - p0", "1")):
                rows = (("set", 3, 4), *[("jump", at + 2) for at in range(many)], ("set", 4, 4), STOP)
                told_claims = {at: list(told) for at in range(2, many + 2)}
                expected = (("set", 3, 4), *[("jump", many + 1)] * many, *rows[-2:])
                self.rows_led(rows, told_claims, expected)

    def test_rings(self):
        nothing = {at: [] for at in (1, 2, 3, 4, 5)}
        for rows in (
            (("jump", 1), ("jump", 1)),
            (("jump", 1), ("jump", 2), ("jump", 1)),
            (("below", 0, 1, 2), STOP, ("jump", 3), ("jump", 4), ("jump", 2)),
            (("jump", 2), STOP, ("jump", 3), ("jump", 3)),
            (("same", 0, 1, 2), STOP, ("jump", 3), ("jump", 4), ("jump", 5), ("jump", 3)),
            # A way to the row itself, over a jump and over two of them.
            (STOP, ("below", 0, 1, 3), STOP, ("jump", 1)),
            (STOP, ("same", 0, 1, 4), STOP, ("jump", 1), ("jump", 3)),
        ):
            used = {at: nothing[at] for at in {row[-1] for row in rows if len(row) > 1}}
            expected = rows if rows[-2:] != (("jump", 1), ("jump", 3)) else (*rows[:4], ("jump", 1))
            self.rows_led(rows, used, expected)

    def test_stops(self):
        rows = (("set", 3, 1), ("below", 0, 1, 4), ("same", 0, 1, 4), ("jump", 4), STOP)
        ends = Rule([], [], claims("r3 - 1", "1"))
        self.rows_led(rows, {4: claims("r3 - 1")}, (*rows[:3], STOP, STOP), ends)
        # Over further jumps: a jump becomes a stop, the others lead to it.
        rows = (("set", 3, 1), ("below", 0, 1, 4), ("same", 0, 1, 4), ("jump", 4), ("jump", 5), ("jump", 6), STOP)
        expected = (("set", 3, 1), ("below", 0, 1, 6), ("same", 0, 1, 6), STOP, STOP, STOP, STOP)
        for told in (claims("r3 - 1"), claims("r3 - 1", "5 - 5*r3", "2*r3 - 1")):
            self.rows_led(rows, {4: list(told), 5: list(told), 6: list(told)}, expected, ends)
        self.rows_led((("jump", 1), STOP), {1: []}, (STOP, STOP))

    def test_rows_on_no_trunk(self):
        rows = (STOP, ("jump", 4), ("below", 0, 1, 4), ("jump", 5), ("jump", 5), STOP)
        told_claims = {4: claims("1"), 5: claims("1")}
        self.rows_led(rows, told_claims, (STOP, STOP, ("below", 0, 1, 5), STOP, STOP, STOP))

    def test_the_way_on_stays(self):
        rows = (("set", 3, 1), ("below", 0, 1, 2), ("jump", 4), STOP, ("set", 5, 1), STOP)
        told = self.rows_led(rows, {2: claims("r3"), 4: claims("r3")},
                             (rows[0], ("below", 0, 1, 4), *rows[2:]))
        self.assertEqual([row for row, *_ in reference.wants_of(told.rows, told.claims(), Rule())].count(1), 2)

    def test_sums_nevers_splits_and_aparts(self):
        # The start never ends; the place 1 claims what shows the rest, over both tests, two jumps and a stop.
        rule = Rule([], [], claims("p0"))
        rows = (("jump", 7), ("same", 0, 1, 5), ("same", 2, 3, 5), ("jump", 4), ("jump", 5), ("jump", 6), STOP, ("jump", 7))
        told_claims = {1: claims("p0", "r0 - 3", "3*r1 - 2"), 4: claims("p0", "r0 - 2", "r1 - 1"), 5: claims("p0", "0"),
                       6: claims("p0"), 7: []}
        wanted = reference.wants_of(rows, told_claims, rule)
        self.assertIsNotNone(shown(rows, told_claims, rule))
        for seed in range(25):
            papers = by_chance.Papers(random.Random(seed), seed % 3, 0.2).of(wanted)
            told = self.led(Bundle(rows, told_claims, papers), rule)
            self.assertEqual(told.rows, (rows[0], ("same", 0, 1, 6), ("same", 2, 3, 6), STOP, STOP, STOP, STOP, rows[7]))

    def test_a_sum_by_k_and_an_apart_on_one_way(self):
        # From the place 1 on r0 is 0 or more, and isn't 0 where the row 2 is passed.
        rule = Rule([], [], claims("r0 + 5"))
        rows = (("jump", 8), ("set", 4, 0), ("same", 0, 4, 4), ("jump", 5), STOP, ("jump", 6), ("set", 4, 1), STOP, ("jump", 8))
        told_claims = {1: claims("r0", "2*r1 - 1"), 4: claims("r0"), 5: claims("r0 - 1", "r1 - 1"),
                       6: claims("r0 + r1 - 2", "r0 - 1"), 8: []}
        bundle = shown(rows, told_claims, rule)
        elder = reference.papers_by_row(bundle, rule)
        self.assertEqual([paper[:2] for _, paper in elder[3]], [("apart", 0), ("sum", 2)])
        told = self.led(bundle, rule)
        self.assertEqual(told.rows, (*rows[:3], ("jump", 6), *rows[4:]))
        # Neither can be put together with others, so both stand as splits: the apart's and the sum's are beside them.
        new = reference.papers_by_row(told, rule)[3][0][1]
        self.assertEqual([part[0] for part in (new, new[2], new[2][2], new[3])], ["split", "split", "sum", "apart"])
        self.assertEqual(size(new), 4)

    def test_a_never_on_the_way(self):
        rows = (("jump", 4), ("jump", 2), ("jump", 3), STOP, ("jump", 4))
        told_claims = {1: claims("-1", "r1"), 2: claims("r0 - 5", "r1"), 3: claims("r0 - 5", "r1"), 4: []}
        papers = [("never", [1, 0]), ("sum", 1, [0, 1]), ("sum", 1, [1, 0]), ("sum", 1, [0, 1]), ("sum", 1, [1, 0])]
        told = self.led(Bundle(rows, told_claims, papers), Rule([], [], claims("r0 - 5")))
        self.assertEqual(told.rows, (rows[0], STOP, STOP, STOP, rows[4]))
        self.assertEqual(told.papers(), [("never", [1, 0]), ("sum", 1, [1, 0]), ("sum", 1, [1, 0])])

    def deep(self, ways, jumps, many, leading=True):
        """Claims of which each is shown by so many splits: those of a way to a jump, and those of the jump."""
        rule = Rule()
        rows = (STOP, ("jump", 2), ("jump", 3), ("set", 4, 1), STOP)
        same = claims(*["p0", "p1", "p2", "r0", "r1", "r2", "r3", "r4"][:many])
        told_claims = {1: [tuple(2 * number for number in form) for form in same], 2: same, 3: same}

        def paper(at, k, depth):
            return within(depth, ("sum", k, [int(number == at) for number in range(many)]))
        papers = [paper(at, 2, ways) for at in range(many)] + [paper(at, 1, jumps) for at in range(many)]
        told = self.led(Bundle(rows, told_claims, papers), rule)
        self.assertEqual(told.rows, (STOP, ("jump", 3 if leading else 2), *rows[2:]))
        return max([reference.depth_of(one) for one in told.papers()], default=0)

    def test_depth(self):
        # At most two within one another: it always leads over the first jump.
        for ways in range(3):
            for jumps in range(3):
                for many in range(9):
                    self.assertLessEqual(self.deep(ways, jumps, many), 10)
        # The number of the claims and the depth of the papers come to at most ten together.
        for many, deepest in ((0, 10), (1, 9), (2, 8), (5, 5), (7, 3)):
            self.deep(deepest, deepest, many)
            self.deep(0, deepest, many)
            self.deep(deepest, 0, many)
        self.assertEqual(self.deep(9, 0, 1), 10)

    def test_too_deep(self):
        # Each paper takes its own claim alone: one split, and ten behind it.
        self.deep(10, 0, 1, leading=False)
        self.deep(0, 10, 1, leading=False)

    def test_too_deep_behind_the_first_jump(self):
        # Each jump's paper takes a sum with 2 for k, or a paper with splits: a split more for each jump.
        rows = (STOP, ("jump", 2), ("jump", 3), ("jump", 4), ("set", 4, 1), STOP)
        told_claims = {at: claims("r0") for at in (1, 2, 3, 4)}
        one, double = ("sum", 1, [1]), ("sum", 2, [2])
        for papers, target in (
            ([within(9, one), one, double], 3), ([within(8, one), double, double], 4), ([within(9, one), double, one], 3),
            ([within(9, one), within(9, double), within(9, one)], 3), ([within(10, one), one, one], 2),
            ([one, within(10, one), one], 3), ([one, one, within(10, one)], 4), ([double, within(9, one), within(9, one)], 3),
        ):
            told = self.led(Bundle(rows, told_claims, papers), Rule())
            self.assertEqual(told.rows[1], ("jump", target))
            self.assertLessEqual(max(reference.depth_of(paper) for paper in told.papers()), 10)

    def test_too_deep_over_a_stop(self):
        rule = Rule([], [], claims("r0"))
        rows = (("jump", 4), ("jump", 2), ("jump", 3), STOP, ("jump", 4))
        told_claims = {**{at: claims("r0") for at in (1, 2, 3)}, 4: []}
        one, double = ("sum", 1, [1]), ("sum", 2, [2])
        for papers, first, second in (
            ([one, one, one], STOP, STOP), ([double, double, double], STOP, STOP),
            ([within(8, one), one, one], STOP, STOP), ([within(9, one), one, one], ("jump", 3), STOP),
            ([one, within(10, one), one], ("jump", 3), ("jump", 3)),
            ([within(9, double), double, within(9, one)], ("jump", 3), STOP), ([one, one, within(10, one)], STOP, STOP),
            ([double, one, within(10, one)], ("jump", 3), STOP), ([within(10, one), one, one], ("jump", 2), STOP),
        ):
            told = self.led(Bundle(rows, told_claims, papers), rule)
            self.assertEqual(told.rows, (rows[0], first, second, STOP, rows[4]))

    def test_long_weights(self):
        for figures in (1, 20, 49, 50):
            great, many = 10 ** figures - 1, 12
            rows = (STOP, *[("jump", at + 2) for at in range(many)], ("set", 4, 1), STOP)
            told_claims = {at: claims("r0", "r0") for at in range(1, many + 2)}
            papers = [("sum", great, [great, 0]), ("sum", 1, [1, 0])] * many
            told = self.led(Bundle(rows, told_claims, papers), Rule())
            self.assertGreaterEqual(told.rows[1][1], 3)

    def test_weights_that_grow_along_a_chain(self):
        # Each place claims what is great times the one ahead of it; all together would be far too long.
        great, many = 10 ** 49, 10
        rows = (STOP, *[("jump", at + 2) for at in range(many)], ("set", 4, 1), STOP)
        told_claims = {at + 1: [(0, 0, 0, 0, great ** at, 0, 0, 0, 0, 0)] for at in range(many + 1)}
        bundle = Bundle(rows, told_claims, [("sum", 1, [great])] * many)
        told = self.led(bundle, Rule())
        self.assertGreaterEqual(told.rows[1][1], 3)
        self.assertLess(reference.greatest_of(told.papers()), 10 ** 400)
        self.assertEqual(led_on(told, Rule()).claims(), told.claims())

    def test_splits_of_forms_are_led_along(self):
        rule = Rule(given("p0"), [], [])
        rows = (("set", 3, 5), ("plus", 4, 0, 1), ("jump", 3), ("jump", 5), STOP, ("set", 5, 0), STOP)
        told_claims = {3: claims("p0"), 5: claims("p0")}
        # At the place 3: a split by v3, v4, p1 and with a great number.
        great = 10 ** 300
        form = (great, 0, 2, 0, 0, 0, 0, 7, 3, 0)
        papers = [("sum", 1, [1]), ("split", form, ("sum", 1, [0, 1, 0]), ("sum", 1, [0, 1, 0]))]
        told = self.led(Bundle(rows, told_claims, papers), rule)
        self.assertEqual(told.rows[2], ("jump", 5))
        # v3 is 5 there, v4 is p0 and p1.
        self.assertEqual(told.papers()[0][1], (great + 35, 3, 5, 0, 0, 0, 0, 0, 0, 0))

    def test_refusals(self):
        self.refused_as_others_are(led_on)

    def test_by_chance(self):
        chance = random.Random(251)
        further = 0
        for at in range(110):
            told = by_chance.rows_by_chance(chance, 0.7, 14) if at % 2 else by_chance.chain_by_chance(chance)
            if told is None:
                continue
            rows, told_claims, _, rule, wanted = told
            bundle = Bundle(rows, told_claims, by_chance.Papers(chance, chance.choice((0, 1, 2)), 0.2).of(wanted))
            told = self.led(bundle, rule)
            self.must(bundle, told, rule)
            further += told.rows != rows
        self.assertGreater(further, 40)

    def must(self, bundle, told, rule):
        """Where all papers have at most two splits and aparts within one another, it leads over the first jump."""
        rows = bundle.rows
        for at, row in enumerate(rows):
            if row[0] not in by_chance.LEADS or rows[row[-1]][0] not in ("jump", "stop"):
                continue
            place, seen = row[-1], []
            while rows[place][0] == "jump" and place != at and place not in seen:
                seen.append(place)
                place = rows[place][1]
            comes_round = place == at or rows[place][0] == "jump"
            leads = rows[row[-1]][0] == "jump" or row[0] == "jump"
            self.assertEqual(told.rows[at] == row, comes_round or not leads)


if __name__ == "__main__":
    import unittest
    unittest.main()
