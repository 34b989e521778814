"""Point 18: bundles of rows and claims, with all papers found."""

import copy
import unittest

from paperrows.bundles import Bundle
from paperrows.errors import NoArea, NoClaims, NoRows, NoRule, Unshown
from paperrows.finder import shown
from paperrows.forms import holds_at, read_form
from paperrows.looker import lacking, lets_by
from paperrows.rules import Rule
from paperrows.runs import run
from paperrows.texts import bundle_text, read_bundle
from paperrows.wants import wants

STOP = ("stop",)


def claim(text):
    return read_form(text, names=["p0", "p1", "p2", "r0", "r1", "r2", "r3", "r4", "r5"])


def claims(*texts):
    return [claim(text) for text in texts]


def area(first, end, rights, low=None, high=None):
    texts = (first, end) if low is None else (first, end, low, high)
    forms = [read_form(text, names=["p0", "p1", "p2"]) for text in texts]
    return (forms[0], forms[1], rights, *(forms[2:] or (None, None)))


def given(*texts):
    return [read_form(text, names=["p0", "p1", "p2"]) for text in texts]


KEPT = claims("r0 - r3", "r3", "p0 - r0", "-p0 + r0")

# Register 4 becomes the greatest worth of the area, which has at least one place.
GREATEST_RULE = Rule(given("p0 - 1"), [area("0", "p0", "read", "-5", "5")], claims("r4 + 5", "-r4 + 5"))
GREATEST = (
    ("read", 4, 3, 0, 0), ("more", 3, 3, 1), ("below", 3, 0, 4), STOP,
    ("read", 5, 3, 0, 0), ("below", 4, 5, 7), ("jump", 8), ("copy", 4, 5), ("more", 3, 3, 1), ("jump", 2),
)
GREATEST_CLAIMS = {
    2: KEPT + claims("r4 + 5", "-r4 + 5"),
    4: KEPT + claims("r0 - r3 - 1", "r4 + 5", "-r4 + 5"),
    7: KEPT + claims("r0 - r3 - 1", "r5 + 5", "-r5 + 5"),
    8: KEPT + claims("r0 - r3 - 1", "r4 + 5", "-r4 + 5"),
}

# What stands in the first area is put into the other one, twice as great.
DOUBLE_RULE = Rule(
    given("p0", "-p0 + 50"), [area("0", "p0", "read", "0", "7"), area("p0 + 3", "2*p0 + 3", "both", "0", "14")],
    claims("-p0 + r3", "p0 - r3"),
)
DOUBLE = (
    ("below", 3, 0, 2), STOP, ("read", 4, 3, 0, 0), ("fold", 4, 4, 2), ("plus", 5, 3, 0), ("write", 5, 3, 4, 1),
    ("more", 3, 3, 1), ("same", 3, 0, 9), ("jump", 2), STOP,
)
DOUBLE_CLAIMS = {2: KEPT + claims("r0 - r3 - 1"), 9: claims("-p0 + r3", "p0 - r3")}

# Up from 0 to p0, by a test of being the same: at most p0 is told of each place, so being unlike is needed.
COUNT_RULE = Rule(given("p0"), [], claims("-p0 + r3", "p0 - r3"))
COUNT = (("same", 3, 0, 3), ("more", 3, 3, 1), ("jump", 4), STOP, ("same", 3, 0, 3), ("more", 3, 3, 1), ("jump", 4))
COUNT_CLAIMS = {3: claims("-p0 + r3", "p0 - r3"), 4: claims("p0 - r3", "p0 - r0", "-p0 + r0")}

ALL = (
    (GREATEST, GREATEST_CLAIMS, GREATEST_RULE),
    (DOUBLE, DOUBLE_CLAIMS, DOUBLE_RULE),
    (COUNT, COUNT_CLAIMS, COUNT_RULE),
    ((STOP,), {}, Rule()),
)


class ShownTest(unittest.TestCase):

    def test_all_papers_are_found_and_let_by(self):
        for rows, told, rule in ALL:
            with self.subTest(rows=rows):
                bundle = shown(rows, told, rule)
                self.assertIsInstance(bundle, Bundle)
                self.assertEqual((bundle.rows, bundle.claims()), (rows, told))
                self.assertIsNone(lacking(bundle, rule))
                self.assertIs(lets_by(bundle, rule), True)
                self.assertEqual(len(bundle.papers()), len(wants(rows, told, rule)))
                self.assertEqual(read_bundle(bundle_text(bundle)), bundle)

    def test_runs_of_what_is_shown_keep_the_rule(self):
        memories = ({}, {0: 5, 1: 3, 2: 4}, {1: 5, 3: 2}, {0: 1, 4: 1})
        for rows, told, rule in ALL:
            for many in range(1, 6):
                for memory in memories:
                    done = run(rows, rule, (many, 3, 4), memory={at: held for at, held in memory.items() if at < many})
                    self.assertEqual(done.word, "stopped")
                    for end in rule.ends:
                        self.assertTrue(holds_at(end, [many, 3, 4, *done.registers]))

    def test_unlikes_are_taken_apart(self):
        told = shown(COUNT, COUNT_CLAIMS, COUNT_RULE).papers()
        self.assertIn("apart", [paper[0] for paper in told])

    def test_long_rows(self):
        # One trunk of three hundred rows with more reads and hints than point 17 tells of.
        rows = (("set", 3, 0), ("set", 4, 0)) + (("read", 5, 3, 0, 0), ("plus", 4, 4, 5)) * 148 + (STOP,)
        rule = Rule(given("p0 - 1"), [area("0", "p0", "read", "0", "9")], claims("r4", "-r4 + 1332"))
        bundle = shown(rows, {}, rule)
        self.assertIs(lets_by(bundle, rule), True)
        with self.assertRaises(Unshown) as told:
            shown(rows, {}, Rule(rule.given, rule.areas, claims("r4", "-r4 + 1331")))
        self.assertEqual((told.exception.row, told.exception.kind, told.exception.number), (298, "ends", 297))

    def test_as_many_rows_and_tests_as_there_may_be(self):
        rows = (("below", 0, 1, 299),) * 299 + (STOP,)
        told = {299: claims("p0 - r0", "-p0 + r0", "-p1 + r1")}
        bundle = shown(rows, told, Rule())
        self.assertEqual(len(bundle.papers()), 300 * 3)
        self.assertIs(lets_by(bundle, Rule()), True)

    def test_by_names_and_the_same_again(self):
        told = shown(rule=DOUBLE_RULE, claims=DOUBLE_CLAIMS, rows=DOUBLE)
        self.assertEqual(told, shown(DOUBLE, DOUBLE_CLAIMS, DOUBLE_RULE))

    def test_what_is_handed_in_stays(self):
        handed = copy.deepcopy(DOUBLE_CLAIMS)
        bundle = shown(DOUBLE, handed, DOUBLE_RULE)
        self.assertEqual(handed, DOUBLE_CLAIMS)
        handed[2].clear()
        self.assertEqual(bundle.claims(), DOUBLE_CLAIMS)


class UnshownTest(unittest.TestCase):

    def lacks(self, rows, told, rule, *fields):
        with self.assertRaises(Unshown) as refusal:
            shown(rows, told, rule)
        self.assertEqual((refusal.exception.row, refusal.exception.kind, refusal.exception.number), fields)

    def without(self, told, place, at):
        return {key: [form for k, form in enumerate(forms) if (key, k) != (place, at)] for key, forms in told.items()}

    def test_a_claim_that_lacks(self):
        # Without r3 at least 0 at the place 2, its read's place may be too low.
        self.lacks(DOUBLE, self.without(DOUBLE_CLAIMS, 2, 1), DOUBLE_RULE, 2, "first", 6)
        # Without r3 below r0 there, it may be too high.
        self.lacks(DOUBLE, self.without(DOUBLE_CLAIMS, 2, 4), DOUBLE_RULE, 2, "end", 7)
        self.lacks(DOUBLE, self.without(DOUBLE_CLAIMS, 2, 3), DOUBLE_RULE, 5, "first", 8)

    def test_each_sort(self):
        rule = Rule(given("p0"), [area("0", "p0", "both", "0", "9")], claims("r0 - 1"))
        self.lacks((STOP,), {}, rule, 0, "ends", 0)
        self.lacks((("more", 0, 0, 1), ("read", 1, 3, -1, 0), STOP), {}, rule, 1, "first", 0)
        self.lacks((("more", 0, 0, 1), ("read", 1, 3, 0, 0), STOP), {}, rule, 1, "end", 1)
        rule = Rule(given("p0 - 1"), rule.areas, claims("r0 - 1"))
        self.lacks((("write", 3, 0, 1, 0), STOP), {}, rule, 0, "low", 2)
        self.lacks((("set", 1, 10), ("write", 3, 0, 1, 0), STOP), {}, rule, 1, "high", 3)
        self.lacks((("set", 1, 9), ("write", 3, 0, 1, 0), ("jump", 3), STOP), {3: claims("r0 - 2")}, rule, 2, "claim", 4)

    def test_the_first_one(self):
        rule = Rule([], [], claims("1", "-1", "r0", "-1"))
        self.lacks((STOP,), {}, rule, 0, "ends", 1)
        self.lacks((("jump", 1), STOP), {1: claims("1", "1", "r3 - 1", "r4 - 1")}, rule, 0, "claim", 2)

    def test_what_holds_but_is_shown_by_no_sum(self):
        # 2*r0 and 2*r1 + 1 are never the same of whole numbers.
        rows = (("fold", 0, 0, 2), ("fold", 1, 1, 2), ("more", 1, 1, 1), ("same", 0, 1, 5), STOP, STOP)
        self.lacks(rows, {5: claims("-1")}, Rule(), 3, "claim", 0)

    def test_nothing_of_a_run_is_asked(self):
        # No run comes to the second stop, but a trunk begins there.
        self.lacks((STOP, STOP), {1: []}, Rule([], [], claims("p0 - r0", "-p0 + r0")), 1, "ends", 2)


class RefusedTest(unittest.TestCase):

    ROWS = (("read", 0, 0, 0, 0), ("jump", 1))

    def refused(self, kind, rows, told, rule):
        with self.assertRaises(kind) as refusal:
            shown(rows, told, rule)
        return getattr(refusal.exception, "at", None)

    def test_in_turn(self):
        unshown = claims("-1")
        self.assertEqual(self.refused(NoArea, self.ROWS, {1: unshown}, Rule()), 0)
        self.refused(Unshown, (("jump", 1), STOP), {1: unshown}, Rule())
        for rule in (None, True, (), {}, "rule", Bundle((STOP,), {})):
            self.refused(NoRule, self.ROWS, {1: unshown}, rule)
            self.assertEqual(self.refused(NoClaims, self.ROWS, {}, rule), 1)
            self.assertEqual(self.refused(NoClaims, self.ROWS, [], rule), None)
            for rows in (None, (), [STOP], Rule(), (("set", 0, 0),)):
                self.assertEqual(self.refused(NoRows, rows, None, rule), 0)

    def test_unshown_is_no_wrong_thing(self):
        with self.assertRaises(LookupError):
            shown((("jump", 1), STOP), {1: claims("-1")}, Rule())


if __name__ == "__main__":
    unittest.main()
