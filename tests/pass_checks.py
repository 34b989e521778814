"""What holds of every pass, for the tests of passes."""

import copy
import itertools
import unittest

import reference
from by_text import area, claims, given
from paperrows.bundles import Bundle
from paperrows.errors import NoArea, NoRule, Unlet
from paperrows.finder import shown
from paperrows.looker import lacking
from paperrows.rules import Rule, is_start
from paperrows.runs import run

STOP = ("stop",)


def starts(rule, span=(-1, 0, 1, 3)):
    told = []
    for p in itertools.product(span, repeat=3):
        for memory in ({}, {at: (at * 7) % 5 - 2 for at in range(12)}):
            if is_start(rule, p, memory):
                told.append((p, memory))
    return told


class PassTest(unittest.TestCase):

    def passed(self, one_pass, bundle, rule, *further, most_starts=40, **by_name):
        """What a pass tells, where all that holds of every pass was looked at."""
        self.assertIsNone(reference.lacking_of(bundle, rule))
        held = copy.deepcopy((bundle.rows, bundle.claims(), bundle.papers(), rule.given, rule.areas, rule.ends, further))
        told = one_pass(bundle, rule, *further, **by_name)
        self.assertEqual(
            (bundle.rows, bundle.claims(), bundle.papers(), rule.given, rule.areas, rule.ends, further), held)
        self.assertIsInstance(told, Bundle)
        self.assertIsNone(lacking(told, rule))
        self.assertIsNone(reference.lacking_of(told, rule))
        self.runs_alike(bundle, told, rule, most_starts)
        if reference.greatest_of(bundle.papers()) < 10 ** 50:
            self.assertLess(reference.greatest_of(told.papers()), 10 ** 400)
        self.assertEqual(one_pass(bundle, rule, *further, **by_name), told)
        self.is_the_askers_own(told)
        return told

    def runs_alike(self, elder, told, rule, most):
        kept = [at for at in range(6) if any(end[4 + at] for end in rule.ends)]
        for p, memory in starts(rule)[:most]:
            one = run(elder.rows, rule, p, memory=memory, budget=500)
            other = run(told.rows, rule, p, memory=memory, budget=500)
            self.assertNotIn("forbidden", (one.word, other.word))
            if one.word == "stopped":
                self.assertEqual((other.word, other.memory()), ("stopped", one.memory()))
                self.assertEqual([other.registers[at] for at in kept], [one.registers[at] for at in kept])
                self.assertLessEqual(other.steps, one.steps)
            elif other.word == "stopped":
                self.assertEqual(run(elder.rows, rule, p, memory=memory, budget=20000).word, "stopped")

    def is_the_askers_own(self, told):
        held = copy.deepcopy((told.claims(), told.papers()))
        told.claims().clear()
        for forms in told.claims().values():
            forms.append(5)
        papers = told.papers()
        for paper in papers:
            for leaf in reference.leaves_of(paper):
                leaf[-1].append(7)
        papers.clear()
        self.assertEqual((told.claims(), told.papers()), held)

    def refused_as_others_are(self, one_pass, *further, **by_name):
        """The refusals that all passes have, whatever else is handed in."""
        rule = Rule(given("p0"), [area("0", "p0", "read")], claims("r0"))
        rows = (("set", 3, 0), ("jump", 2), STOP)
        bundle = shown(rows, {2: claims("r0")}, rule)
        for thing in (None, True, 5, "rule", [], (rule,), bundle):
            with self.assertRaises(NoRule):
                one_pass(bundle, thing, *further, **by_name)
        reading = Bundle((("read", 3, 0, 0, 1), ("write", 0, 0, 0, 0), STOP), {}, [])
        for areas, at in ((rule.areas, 0), (rule.areas * 2, 1)):
            with self.assertRaises(NoArea) as told:
                one_pass(reading, Rule(rule.given, areas), *further, **by_name)
            self.assertEqual(told.exception.at, at)
        papers = bundle.papers()
        wrong = ("never", [0, 0])
        for others in (papers[:1], [], [wrong, papers[1]], [papers[0], wrong], [*papers, papers[0]], [5, None]):
            spoilt = Bundle(rows, {2: claims("r0")}, others)
            with self.assertRaises(Unlet) as told:
                one_pass(spoilt, rule, *further, **by_name)
            lack = (told.exception.row, told.exception.kind, told.exception.number)
            self.assertEqual(lack, lacking(spoilt, rule))
        self.assertEqual(lack, (1, "claim", 0))
        with self.assertRaises(Unlet) as told:
            one_pass(Bundle(rows, {2: claims("r0")}, [*papers, 5]), rule, *further, **by_name)
        self.assertEqual((told.exception.row, told.exception.kind, told.exception.number), (-1, "more", 2))
