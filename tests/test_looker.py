"""Point 16: what the looker lets by, and what it tells of a bundle that it doesn't."""

import copy
import unittest

from paperrows.bundles import Bundle
from paperrows.errors import NoArea, NoRule
from paperrows.finder import shown
from paperrows.forms import read_form
from paperrows.looker import lacking, lets_by
from paperrows.papers import shows
from paperrows.rules import Rule
from paperrows.runs import run
from paperrows.wants import wants

STOP = ("stop",)


def claim(text):
    return read_form(text, names=["p0", "p1", "p2", "r0", "r1", "r2", "r3", "r4", "r5"])


def rule_form(text):
    return read_form(text, names=["p0", "p1", "p2"])


# All worths of the area from 0 on, p0 of them, are added up in register 4.
CELLS = (rule_form("0"), rule_form("p0"), "read", rule_form("0"), rule_form("9"))
RULE = Rule([], [CELLS], [claim("r4"), claim("9*p0 - r4")])
ROWS = (
    ("set", 3, 0), ("set", 4, 0), ("below", 3, 0, 4), STOP,
    ("read", 5, 3, 0, 0), ("plus", 4, 4, 5), ("more", 3, 3, 1), ("jump", 2),
)
KEPT = [claim(text) for text in ("r3", "r0 - r3", "p0 - r0", "-p0 + r0", "r4", "9*r3 - r4")]
CLAIMS = {2: KEPT, 4: KEPT + [claim("r0 - r3 - 1")]}

# Rows with three wants, one behind the other, each with another paper.
SHORT_RULE = Rule([rule_form("p0 - 5"), rule_form("p1")], [], [claim("r0 - 5"), claim("r1"), claim("r0 + r1 - 4")])
SHORT_PAPERS = [("sum", 1, [1, 0]), ("sum", 1, [0, 1]), ("sum", 1, [1, 1])]


def first_lacking(bundle, rule):
    """What lacks, asked of each want by itself."""
    papers, told = bundle.papers(), wants(bundle.rows, bundle.claims(), rule)
    for number, (row, sort, *want) in enumerate(told):
        if not (number < len(papers) and shows(papers[number], *want)):
            return (row, sort, number)
    return (-1, "more", len(told)) if len(papers) > len(told) else None


class LetByTest(unittest.TestCase):

    def told(self, bundle, rule, expected):
        self.assertEqual(lacking(bundle, rule), expected)
        self.assertIs(lets_by(bundle, rule), expected is None)

    def test_no_wants_and_no_papers(self):
        self.told(Bundle((STOP,), {}), Rule(), None)
        self.told(Bundle((("jump", 1), STOP), {1: []}), Rule(), None)
        self.told(Bundle((STOP,), {}, [("sum", 1, [])]), Rule(), (-1, "more", 0))
        self.told(Bundle((STOP,), {}, [None]), Rule(), (-1, "more", 0))

    def test_a_loop_with_all_papers(self):
        bundle = shown(ROWS, CLAIMS, RULE)
        self.told(bundle, RULE, None)
        self.assertEqual(len(bundle.papers()), len(wants(ROWS, CLAIMS, RULE)))

    def test_what_is_let_by_keeps_the_rule(self):
        for many in range(5):
            for held in (0, 3, 9):
                told = run(ROWS, RULE, (many, 1, 2), memory={at: held for at in range(many)})
                self.assertEqual((told.word, told.row, told.registers[4]), ("stopped", 3, many * held))

    def test_one_paper_left_out(self):
        self.told(Bundle((STOP,), {}, SHORT_PAPERS), SHORT_RULE, None)
        self.told(Bundle((STOP,), {}, SHORT_PAPERS[1:]), SHORT_RULE, (0, "ends", 0))
        self.told(Bundle((STOP,), {}, SHORT_PAPERS[:1] + SHORT_PAPERS[2:]), SHORT_RULE, (0, "ends", 1))
        self.told(Bundle((STOP,), {}, SHORT_PAPERS[:2]), SHORT_RULE, (0, "ends", 2))
        self.told(Bundle((STOP,), {}), SHORT_RULE, (0, "ends", 0))

    def test_each_paper_left_out_or_put_otherwise(self):
        whole = shown(ROWS, CLAIMS, RULE)
        told = wants(ROWS, CLAIMS, RULE)
        for number, (row, sort, *_) in enumerate(told):
            papers = whole.papers()
            less = Bundle(ROWS, CLAIMS, papers[:number] + papers[number + 1:])
            self.told(less, RULE, first_lacking(less, RULE))
            for wrong in (None, True, 1, [], (), ("sum", 0, papers[number][-1]), list(papers[number]), ("never", []),
                          papers[number] + (1,), ("sum", 1, papers[number][-1] + [0])):
                other = Bundle(ROWS, CLAIMS, papers[:number] + [wrong] + papers[number + 1:])
                self.told(other, RULE, (row, sort, number))

    def test_two_changed_about(self):
        for one, other in ((0, 1), (0, 2), (1, 2)):
            papers = list(SHORT_PAPERS)
            papers[one], papers[other] = papers[other], papers[one]
            self.told(Bundle((STOP,), {}, papers), SHORT_RULE, (0, "ends", one))

    def test_more_papers(self):
        self.told(Bundle((STOP,), {}, SHORT_PAPERS + [SHORT_PAPERS[2]]), SHORT_RULE, (-1, "more", 3))
        self.told(Bundle((STOP,), {}, SHORT_PAPERS + [None] * 7), SHORT_RULE, (-1, "more", 3))
        self.told(Bundle((STOP,), {}, SHORT_PAPERS[:2] + [None] * 7), SHORT_RULE, (0, "ends", 2))
        whole = shown(ROWS, CLAIMS, RULE)
        self.told(Bundle(ROWS, CLAIMS, whole.papers() + [("sum", 1, [])]), RULE, (-1, "more", len(whole.papers())))

    def test_row_and_sort_of_each_want(self):
        told = []
        papers = shown(ROWS, CLAIMS, RULE).papers()
        for number in range(len(papers)):
            told.append(lacking(Bundle(ROWS, CLAIMS, papers[:number]), RULE))
        sorts = ["claim"] * 6 + ["claim"] * 7 + ["ends"] * 2 + ["first", "end"] + ["claim"] * 6
        rows = [1] * 6 + [2] * 7 + [3] * 2 + [4] * 2 + [7] * 6
        self.assertEqual(told, list(zip(rows, sorts, range(len(papers)))))

    def test_another_rule(self):
        bundle = shown(ROWS, CLAIMS, RULE)
        self.told(bundle, Rule([], [CELLS], [claim("r4"), claim("8*p0 - r4")]), (3, "ends", 14))
        self.told(bundle, Rule([], [CELLS], [claim("r4")]), (4, "first", 14))
        self.told(bundle, Rule([], [CELLS]), (4, "first", 13))

    def test_by_names(self):
        self.assertIsNone(lacking(rule=SHORT_RULE, bundle=Bundle((STOP,), {}, SHORT_PAPERS)))
        self.assertIs(lets_by(rule=SHORT_RULE, bundle=Bundle((STOP,), {}, SHORT_PAPERS)), True)

    def test_nothing_is_changed(self):
        bundle = shown(ROWS, CLAIMS, RULE)
        held = copy.deepcopy((bundle.rows, bundle.claims(), bundle.papers()))
        lets_by(bundle, RULE)
        lacking(bundle, RULE)
        self.assertEqual((bundle.rows, bundle.claims(), bundle.papers()), held)


class AnythingTest(unittest.TestCase):

    THINGS = (
        None, True, False, 0, 1, "", "rows 1\nstop\nclaims 0\npapers 0", (), [], {}, ((STOP,), {}, []), [(STOP,), {}, []],
        ((), (), ()), Rule, Bundle, {1: {2: [3, (4,)]}}, [0] * 39000,
    )

    def test_things_that_are_no_bundle_or_no_rule(self):
        for thing in self.THINGS + (Rule(),):
            self.assertIs(lets_by(thing, Rule()), False)
        for thing in self.THINGS + (Bundle((STOP,), {}),):
            self.assertIs(lets_by(Bundle((STOP,), {}), thing), False)
            self.assertIs(lets_by(thing, Bundle((STOP,), {})), False)
        for thing in self.THINGS:
            for other in self.THINGS:
                self.assertIs(lets_by(thing, other), False)

    def test_things_that_are_no_rule_are_refused(self):
        for bundle in (Bundle((STOP,), {}), Bundle((("read", 0, 0, 0, 0), STOP), {})):
            for thing in self.THINGS + (Bundle((STOP,), {}),):
                with self.assertRaises(NoRule):
                    lacking(bundle, thing)

    def test_areas_that_the_rule_has_not(self):
        for rows, rule, at in (
            ((("read", 0, 0, 0, 0), STOP), Rule(), 0),
            ((STOP, ("write", 0, 0, 0, 0), STOP), Rule([], [CELLS]), 1),
            ((STOP, STOP, ("read", 0, 0, 0, 1), STOP), RULE, 2),
        ):
            for papers in ([], [None], [("sum", 1, [])] * 5):
                bundle = Bundle(rows, {}, papers)
                self.assertIs(lets_by(bundle, rule), False)
                with self.assertRaises(NoArea) as told:
                    lacking(bundle, rule)
                self.assertEqual(told.exception.at, at)


if __name__ == "__main__":
    unittest.main()
