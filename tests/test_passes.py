"""Points 23 and 26: passes by their words, one behind another; and point 3, over all parts together."""

import itertools
import random

import chance as by_chance
import reference
from by_text import area, claims, given
from paperrows.bundles import Bundle
from paperrows.deeds import deeds_run
from paperrows.errors import NoArea, NoPass, NoRule, Unlet, Unmade
from paperrows.finder import shown
from paperrows.leading import led_on
from paperrows.looker import lacking, lets_by
from paperrows.maker import made
from paperrows.passes import passed
from paperrows.rules import Rule, is_start
from paperrows.runs import run
from paperrows.sparing import spared
from paperrows.sureness import surely
from paperrows.texts import bundle_text, read_bundle
from paperrows.thinning import thinned
from pass_checks import STOP, PassTest

WORDS = ("thinned", "spared", "led_on", "surely")
PASSES = (thinned, spared, led_on, surely)


class PassedTest(PassTest):

    RULE = Rule(given("p0"), [area("0", "p0", "both", "-9", "9")], claims("r0 - 1"))
    # Rows of which each pass takes something away: jumps to jumps, a row nobody comes to, one nobody reads, a sure test.
    ROWS = (
        ("set", 3, 1), ("below", 3, 4, 9), ("jump", 4), ("set", 0, 5), ("jump", 6), ("set", 0, 4), ("set", 5, 2),
        ("set", 0, 1), STOP, ("set", 0, 7), STOP,
    )
    CLAIMS = {4: claims("r3 - 1"), 6: claims("r3", "1"), 9: claims("0")}

    def bundle(self):
        papers = shown(self.ROWS, self.CLAIMS, self.RULE).papers()
        papers[0] = ("never", [0, 0, 0, 1])
        return Bundle(self.ROWS, self.CLAIMS, papers)

    def told(self, words):
        told = self.passed(passed, self.bundle(), self.RULE, words=words)
        expected = self.bundle()
        for word in words:
            expected = PASSES[WORDS.index(word)](expected, self.RULE)
        self.assertEqual(told, expected)
        return told

    def test_no_words(self):
        bundle = self.bundle()
        told = self.told([])
        self.assertEqual(told, bundle)
        self.assertIsNot(passed(bundle, self.RULE, words=[]), bundle)

    def test_one_of_each(self):
        for word in WORDS:
            self.assertNotEqual(self.told([word]), self.bundle())

    def test_the_same_twice(self):
        for word in WORDS:
            self.assertEqual(self.told([word, word]), self.told([word]))

    def test_all_four_in_each_order(self):
        for words in itertools.permutations(WORDS):
            told = self.told(list(words))
            self.assertLess(len(told), len(self.ROWS))

    def test_many_words(self):
        self.told(list(WORDS) * 8)

    def test_no_pass(self):
        bundle, words = self.bundle(), list(WORDS)
        for wrong in ("thin", "", "renamed", "Thinned", "thinned ", 5, True, None, ["thinned"], {}, bundle, ("spared",)):
            for at in range(5):
                held = words[:at] + [wrong] + words[at:]
                with self.assertRaises(NoPass) as told:
                    passed(bundle, self.RULE, words=held)
                self.assertEqual(told.exception.at, at)
                self.assertEqual(held, words[:at] + [wrong] + words[at:])
        with self.assertRaises(NoPass) as told:
            passed(bundle, self.RULE, words=["spared", "x", "led_on", "y"])
        self.assertEqual(told.exception.at, 1)
        for thing in (None, True, 5, "thinned", ("thinned",), {}, {"thinned": 1}, (), bundle):
            with self.assertRaises(NoPass) as told:
                passed(bundle, self.RULE, words=thing)
            self.assertIsNone(told.exception.at)

    def test_refusals(self):
        for words in ([], list(WORDS), ["x"], None):
            self.refused_as_others_are(passed, words=words)
        with self.assertRaises(Unlet):
            passed(Bundle(self.ROWS, self.CLAIMS, []), self.RULE, words=["x"])
        with self.assertRaises(NoArea):
            passed(Bundle((("read", 0, 0, 0, 1), STOP), {}, []), self.RULE, words=["x"])
        with self.assertRaises(NoRule):
            passed(self.bundle(), None, words=["x"])

    def test_words_are_handed_in_by_name(self):
        with self.assertRaises(TypeError):
            passed(self.bundle(), self.RULE, ["thinned"])

    def test_by_chance(self):
        chance = random.Random(260)
        for at in range(50):
            told = by_chance.rows_by_chance(chance, 0.5, 12) if at % 3 else by_chance.chain_by_chance(chance)
            if told is None:
                continue
            rows, told_claims, _, rule, wanted = told
            bundle = Bundle(rows, told_claims, by_chance.Papers(chance, 1, 0.5).of(wanted))
            words = [chance.choice(WORDS) for _ in range(chance.randint(1, 6))]
            told = self.passed(passed, bundle, rule, words=words, most_starts=6)
            self.assertEqual(read_bundle(bundle_text(told)), told)


class WholeProgramTest(PassTest):

    def test_made_of_deeds_passed_on_written_and_read(self):
        chance = random.Random(30)
        seen = {}
        for _ in range(150):
            rule, deeds = by_chance.deed_rule(chance), by_chance.Deeds(chance, chance.choice((3, 6, 12))).all()
            try:
                bundle = made(deeds, rule)
            except (NoArea, Unmade):
                continue
            for word in WORDS:
                told = passed(bundle, rule, words=[word])
                self.assertIsNone(reference.lacking_of(told, rule))
                self.assertTrue(lets_by(read_bundle(bundle_text(told)), rule))
                seen[word] = seen.get(word, 0) + (told != bundle)
                if word != "surely":
                    self.assertLessEqual(len(told), len(bundle))
            told = read_bundle(bundle_text(passed(bundle, rule, words=list(WORDS))))
            self.as_the_deeds(told, deeds, rule, chance)
        self.assertGreater(min(seen[word] for word in ("spared", "led_on")), 5, seen)

    def as_the_deeds(self, told, deeds, rule, chance):
        kept = [at for at in range(4) if any(end[4 + at] for end in rule.ends)]
        for _ in range(6):
            p, memory = tuple(chance.randint(-2, 4) for _ in range(3)), {chance.randint(0, 5): chance.randint(-2, 2)}
            if not is_start(rule, p, memory):
                continue
            word, names, left, _ = deeds_run(deeds, rule, p, memory=memory)
            one = run(told.rows, rule, p, memory=memory, budget=20 * 300 + 20)
            self.assertNotEqual(one.word, "forbidden")
            if word == "ended":
                self.assertEqual((one.word, one.memory()), ("stopped", left))
                self.assertEqual([one.registers[at] for at in kept], [names[at] for at in kept])
                for end in rule.ends:
                    worths = [1, *p, *one.registers]
                    self.assertGreaterEqual(sum(number * worth for number, worth in zip(end, worths)), 0)

    def test_what_is_not_let_by_is_told_with_row_and_want(self):
        bundle = PassedTest("bundle").bundle()
        wanted = reference.wants_of(bundle.rows, bundle.claims(), PassedTest.RULE)
        for number, (row, sort, hints, _, _) in enumerate(wanted):
            papers = bundle.papers()
            papers[number] = ("never", [0] * len(hints))
            self.assertEqual(lacking(Bundle(bundle.rows, bundle.claims(), papers), PassedTest.RULE), (row, sort, number))


if __name__ == "__main__":
    import unittest
    unittest.main()
