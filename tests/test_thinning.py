"""Points 23 and 24: rows to which no way leads are left out, and registers get other names."""

import itertools
import random

import chance as by_chance
import reference
from by_text import area, claims, given
from paperrows.bundles import Bundle
from paperrows.errors import NoNames, NoRule, Unlet
from paperrows.finder import shown
from paperrows.rules import Rule
from paperrows.thinning import renamed, thinned
from pass_checks import STOP, PassTest

ORDERS = [list(order) for order in itertools.permutations((3, 4, 5))]


class ThinnedTest(PassTest):

    def thinned(self, rows, told_claims, rule=Rule()):
        bundle = shown(rows, told_claims, rule)
        told = self.passed(thinned, bundle, rule)
        self.assertLessEqual(told.size(), bundle.size())
        self.assertEqual(thinned(told, rule), told)
        return told

    def test_nothing_to_take_away(self):
        for rows, told_claims in (
            ((STOP,), {}), ((("jump", 1), STOP), {1: []}), ((("set", 3, 1), ("below", 3, 4, 3), STOP, STOP), {3: claims("0")}),
            ((("more", 3, 3, 1), ("same", 3, 4, 1), ("jump", 1)), {1: []}), ((("set", 3, 0), STOP), {1: claims("0", "r3")}),
        ):
            self.assertEqual(self.thinned(rows, told_claims), shown(rows, told_claims, Rule()))

    def test_behind_a_jump_and_a_stop(self):
        told = self.thinned((("jump", 3), ("set", 3, 1), ("set", 3, 2), STOP, ("set", 4, 1), STOP), {3: claims("1")})
        self.assertEqual((told.rows, told.claims()), ((("jump", 1), STOP), {1: claims("1")}))
        told = self.thinned((STOP, STOP, ("jump", 1)), {1: []})
        self.assertEqual((told.rows, told.claims(), told.papers()), ((STOP,), {}, []))

    def test_told_places_among_them(self):
        # What is told at a place to which no way leads may be anything.
        rows = (("below", 0, 1, 4), STOP, ("set", 3, 1), ("jump", 2), ("jump", 6), ("more", 3, 3, 1), STOP)
        told_claims = {2: claims("1", "2"), 4: claims("p1 - p0 - 1"), 5: claims("-1", "r3"), 6: claims("1", "0")}
        told = self.thinned(rows, told_claims)
        self.assertEqual(told.rows, (("below", 0, 1, 2), STOP, ("jump", 3), STOP))
        self.assertEqual(told.claims(), {2: claims("p1 - p0 - 1"), 3: claims("1", "0")})
        elder = shown(rows, told_claims, Rule()).papers()
        # The wants of the rows 0, 4 and 5 at the places of the start, 2, 4, 5 and 6.
        self.assertEqual(told.papers(), [elder[0], *elder[3:5]])

    def test_chains_that_lead_to_one_another(self):
        rows = (("jump", 7), ("jump", 3), ("jump", 1), ("below", 0, 1, 5), ("jump", 2), ("same", 0, 1, 1), ("jump", 7), STOP)
        told_claims = {at: claims(str(at)) for at in (1, 2, 3, 5, 7)}
        told = self.thinned(rows, told_claims)
        self.assertEqual((told.rows, told.claims()), ((("jump", 1), STOP), {1: claims("7")}))

    def test_both_ways_of_each_test(self):
        rows = (("same", 0, 0, 3), ("below", 0, 0, 5), ("jump", 3), STOP, STOP, STOP)
        self.assertEqual(self.thinned(rows, {3: [], 5: []}).rows,
                         (("same", 0, 0, 3), ("below", 0, 0, 4), ("jump", 3), STOP, STOP))

    def test_refusals(self):
        self.refused_as_others_are(thinned)

    def test_by_chance(self):
        chance = random.Random(241)
        fewer = 0
        for _ in range(60):
            told = by_chance.rows_by_chance(chance, chance.choice((0.3, 0.6)), 14)
            if told is None:
                continue
            rows, told_claims, papers, rule, expected = told
            bundle = Bundle(rows, told_claims, by_chance.Papers(chance, 2, 0.3).of(expected))
            told = self.passed(thinned, bundle, rule, most_starts=8)
            reached, ahead = {0}, [0]
            while ahead:
                further = [at for at in reference.ways_on(rows, ahead.pop()) if at not in reached]
                reached.update(further)
                ahead += further
            places = sorted(reached)
            self.assertEqual(told.rows, tuple((*rows[at][:-1], places.index(rows[at][-1])) if rows[at][0] in by_chance.LEADS
                                              else rows[at] for at in places))
            self.assertEqual(told.claims(), {places.index(at): told_claims[at] for at in told_claims if at in reached})
            fewer += len(told) < len(bundle)
        self.assertGreater(fewer, 10)


class RenamedTest(PassTest):

    RULE = Rule(given("p0"), [area("0", "p0 + 6", "both", "-5", "5")], claims("p0 - r0", "r1 - p1"))
    ROWS = (
        ("set", 3, 1), ("copy", 4, 3), ("plus", 5, 3, 4), ("minus", 3, 5, 4), ("more", 4, 3, 2), ("fold", 5, 4, 0),
        ("read", 4, 5, 1, 0), ("write", 5, 2, 4, 0), ("below", 3, 4, 12), ("same", 5, 4, 12), ("set", 3, 1), ("jump", 12),
        ("copy", 5, 3), STOP,
    )
    CLAIMS = {12: claims("r3", "r4 + 5", "-r4 + 5", "2 - r3 - 2*r5", "p0 - r0", "r1 - p1", "2*r3 - 3*r5 - 1")}

    def renamed(self, bundle, rule, names):
        told = self.passed(renamed, bundle, rule, names)
        self.assertEqual((len(told), told.size()), (len(bundle), bundle.size()))
        back = [3 + names.index(name) for name in (3, 4, 5)]
        self.assertEqual(renamed(told, rule, back), bundle)
        self.assertEqual(renamed(bundle, rule, names=names), told)
        return told

    def test_all_words_in_each_order(self):
        bundle = shown(self.ROWS, self.CLAIMS, self.RULE)
        for names in ORDERS:
            told = self.renamed(bundle, self.RULE, names)
            new = dict(zip((0, 1, 2, 3, 4, 5), (0, 1, 2, *names)))
            three, four, five = names
            self.assertEqual(told.rows[:7], (
                ("set", three, 1), ("copy", four, three), ("plus", five, three, four), ("minus", three, five, four),
                ("more", four, three, 2), ("fold", five, four, 0), ("read", four, five, 1, 0)))
            self.assertEqual(told.rows[7:], (
                ("write", five, 2, four, 0), ("below", three, four, 12), ("same", five, four, 12), ("set", three, 1),
                ("jump", 12), ("copy", five, three), STOP))
            for one, other in zip(self.CLAIMS[12], told.claims()[12]):
                self.assertEqual(one[:7], other[:7])
                self.assertEqual([one[4 + at] for at in range(6)], [other[4 + new[at]] for at in range(6)])
            # Forms without splits tell of no register.
            self.assertEqual(told.papers(), bundle.papers())

    def test_splits(self):
        rule = Rule(given("p0"), [], claims("r0"))
        rows = (("same", 0, 1, 3), ("set", 5, 1), ("jump", 3), STOP)
        told_claims = {3: claims("p0", "r0", "r5")}
        bundle = shown(rows, told_claims, rule)
        papers = bundle.papers()
        form = (4, 0, 0, 0, 1, 2, 3, 30, 40, 50)
        inner = ("split", form, ("sum", 1, [1] + [0] * 4), ("sum", 1, [1] + [0] * 4))
        # The start's trunk: within an apart, within a split; and the told place's.
        papers[3] = ("apart", 0, ("split", form, ("sum", 1, [1, 0, 0]), ("sum", 1, [1, 0, 0])), ("sum", 1, [1, 0]))
        papers[4] = ("split", form, ("apart", 0, ("sum", 1, [1, 0, 0]), ("sum", 1, [1, 0, 0])), ("sum", 1, [1, 0]))
        at = len(papers) - 1
        papers[at] = ("split", form, ("split", form, *[("sum", 1, [0, 0, 1, 0, 0, 0])] * 2), ("sum", 1, [0, 0, 1, 0, 0]))
        self.assertEqual(inner[0], "split")
        bundle = Bundle(rows, told_claims, papers)
        for names in ORDERS:
            told = self.renamed(bundle, rule, names)
            new = [0] * 10
            for place in range(10):
                new[place if place < 7 else 4 + names[place - 7]] = form[place]
            for paper in (told.papers()[3][2], told.papers()[4], told.papers()[at], told.papers()[at][2]):
                self.assertEqual(paper[1], tuple(new))

    def test_no_names(self):
        bundle = shown(self.ROWS, self.CLAIMS, self.RULE)
        for thing in ([], [3, 4], [3, 4, 5, 3], [3, 3, 4], [5, 5, 5], [3, 4, 6], [2, 3, 4], [0, 1, 2], [3, 4, True],
                      [3, 4, "5"], [3, 4, None], [3, 4, [5]], [3, 4, 10 ** 60], (3, 4, 5), "345", None, True, 345, {3: 3, 4: 4, 5: 5},
                      bundle, [bundle, 3, 4]):
            with self.assertRaises(NoNames):
                renamed(bundle, self.RULE, thing)

    def test_ends_of_a_register_that_would_be_another_one(self):
        rows = (("set", 3, 1), ("set", 4, 2), ("set", 5, 3), STOP)
        for number in (3, 4, 5):
            rule = Rule([], [], claims("r0 - r0 + 1", f"r{number}"))
            bundle = shown(rows, {}, rule)
            for names in ORDERS:
                if names[number - 3] == number:
                    self.renamed(bundle, rule, names)
                else:
                    with self.assertRaises(NoNames):
                        renamed(bundle, rule, names)

    def test_refusals(self):
        self.refused_as_others_are(renamed, [3, 4, 5])
        self.refused_as_others_are(renamed, [3, 4])
        with self.assertRaises(Unlet):
            renamed(Bundle((STOP,), {}, []), Rule([], [], claims("0")), None)
        with self.assertRaises(NoRule):
            renamed(Bundle((STOP,), {}, []), None, None)

    def test_by_chance(self):
        chance = random.Random(242)
        seen = {}
        for _ in range(50):
            told = by_chance.rows_by_chance(chance, 0.3, 12) or by_chance.chain_by_chance(chance)
            if told is None:
                continue
            rows, told_claims, papers, rule, expected = told
            bundle = Bundle(rows, told_claims, by_chance.Papers(chance, 2, 0.2).of(expected))
            names = chance.choice(ORDERS)
            wrong = any(end[4 + at] and names[at - 3] != at for end in rule.ends for at in (3, 4, 5))
            seen[wrong] = seen.get(wrong, 0) + 1
            if wrong:
                with self.assertRaises(NoNames):
                    renamed(bundle, rule, names)
            else:
                self.renamed(bundle, rule, names)
        self.assertGreater(seen[False], 10)


if __name__ == "__main__":
    import unittest
    unittest.main()
