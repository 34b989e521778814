"""Point 2: what holds of all parts: whole numbers, how arguments are handed in, and that nothing is changed or kept."""

import inspect
import unittest

from paperrows import bundles, counters, deeds, desk, finder, forms, kinds, leading, looker, maker, papers, passes, rows, rules
from paperrows import runs, sparing, sureness, texts, thinning, wants
from paperrows.errors import NoClaims, NoDeeds, NoForm, NoNames, NoNumber, NoPapers, NoPass, NoRows, NoRule, NoSaying
from paperrows.errors import NoStart, NoText

STOP = ("stop",)
FORM = (0,) * 10

# The names of each one's arguments; those behind the bar are handed in by their names alone.
INTERFACE = (
    (forms.worth, "form worths |"),
    (forms.holds_at, "form worths |"),
    (forms.added, "one other |"),
    (forms.often, "form many |"),
    (forms.contrary, "form |"),
    (forms.led, "form others |"),
    (forms.form_text, "form | names"),
    (forms.read_form, "text | names"),
    (rows.look_rows, "rows |"),
    (rows.joins, "rows |"),
    (rows.reads, "row |"),
    (rows.sets, "row |"),
    (rows.look_claims, "rows claims |"),
    (rules.Rule, "given areas ends |"),
    (rules.is_start, "rule p memory |"),
    (runs.run, "rows rule p | memory budget"),
    (runs.way, "rows rule p | memory budget"),
    (wants.wants, "rows claims rule |"),
    (papers.shows, "paper hints unlikes goal |"),
    (papers.size, "paper |"),
    (bundles.Bundle, "rows claims papers |"),
    (looker.lets_by, "bundle rule |"),
    (looker.lacking, "bundle rule |"),
    (finder.found, "hints unlikes goal |"),
    (finder.shown, "rows claims rule |"),
    (texts.bundle_text, "bundle |"),
    (texts.read_bundle, "text |"),
    (deeds.look_deeds, "deeds |"),
    (deeds.deeds_run, "deeds rule p | memory budget"),
    (maker.made, "deeds rule |"),
    (counters.counter, "deeds rule | reach"),
    (thinning.thinned, "bundle rule |"),
    (thinning.renamed, "bundle rule names |"),
    (sparing.spared, "bundle rule |"),
    (leading.led_on, "bundle rule |"),
    (sureness.surely, "bundle rule |"),
    (passes.passed, "bundle rule | words"),
    (desk.Desk, "|"),
)

# What is handed in where an argument is left out.
DEFAULTS = {
    (rules.Rule, "given"): (),
    (rules.Rule, "areas"): (),
    (rules.Rule, "ends"): (),
    (runs.run, "memory"): (),
    (runs.run, "budget"): 1000,
    (runs.way, "memory"): (),
    (runs.way, "budget"): 1000,
    (bundles.Bundle, "papers"): (),
    (deeds.deeds_run, "memory"): (),
    (deeds.deeds_run, "budget"): 300,
    (counters.counter, "reach"): 2,
}

# The methods that the interface lists, each defined in its class itself.
METHODS = (
    (rules.Rule, "facts __eq__"),
    (runs.Run, "memory __eq__ __str__"),
    (bundles.Bundle, "claims papers size __len__ __eq__"),
    (desk.Desk, "say"),
)


def nested(many):
    """So many lists, each but the last one within another one."""
    thing = []
    for _ in range(many - 1):
        thing = [thing]
    return thing


class WholeNumberTest(unittest.TestCase):

    def test_whole_numbers(self):
        for number in (0, 1, -1, 10 ** 60 - 1, -10 ** 60 + 1, 10 ** 500):
            self.assertIs(kinds.is_whole(number), True)

    def test_what_is_none(self):
        for thing in (True, False, None, "1", "", (1,), [1], {1: 1}, rules.Rule()):
            self.assertIs(kinds.is_whole(thing), False)

    def test_told_numbers_may_be_handed_in_again(self):
        great = forms.often((1, 10 ** 60 - 1), 10 ** 60 - 1)
        greater = forms.often(forms.often(great, 10 ** 60 - 1), 10 ** 60 - 1)
        self.assertEqual(forms.added(greater, forms.often(greater, -1)), (0, 0))
        self.assertTrue(forms.holds_at(greater, [1]))
        self.assertEqual(forms.led((0, 1), [greater]), greater)


class ArgumentsTest(unittest.TestCase):

    def test_places_and_names(self):
        for call, told in INTERFACE:
            with self.subTest(call.__name__):
                parameters = inspect.signature(call).parameters.values()
                either = [one.name for one in parameters if one.kind == one.POSITIONAL_OR_KEYWORD]
                by_name = [one.name for one in parameters if one.kind == one.KEYWORD_ONLY]
                self.assertEqual(" ".join([*either, "|", *by_name]), told)

    def test_defined_where_the_interface_lists_them(self):
        for call, _ in INTERFACE:
            module = inspect.getmodule(call)
            self.assertIs(getattr(module, call.__name__), call)
        for kind, names in METHODS:
            for name in names.split():
                self.assertIn(name, vars(kind))

    def test_what_has_a_default(self):
        for call, _ in INTERFACE:
            for one in inspect.signature(call).parameters.values():
                self.assertEqual(one.default, DEFAULTS.get((call, one.name), one.empty))

    def test_handed_in_by_names(self):
        self.assertEqual(forms.worth(worths=[2], form=(1, 3)), 7)
        self.assertTrue(forms.holds_at(worths=[2], form=(1, 3)))
        self.assertEqual(forms.led(others=[(1,)], form=(1, 3)), (4,))
        self.assertEqual(forms.form_text(names=["x"], form=(1, 3)), "3*x + 1")
        self.assertEqual(forms.read_form(names=["x"], text="3*x + 1"), (1, 3))
        self.assertIsNone(rows.look_claims(claims={}, rows=(STOP,)))
        self.assertTrue(rules.is_start(memory={}, p=(0, 0, 0), rule=rules.Rule()))
        told = runs.run(budget=5, memory={}, p=(0, 0, 0), rule=rules.Rule(), rows=(STOP,))
        self.assertEqual(told.word, "stopped")
        self.assertEqual(len(runs.way(budget=5, memory={}, p=(0, 0, 0), rule=rules.Rule(), rows=(STOP,))), 1)
        self.assertEqual(wants.wants(rule=rules.Rule(), claims={}, rows=(STOP,)), [])
        self.assertEqual(papers.size(paper=("never", [])), 1)
        bundle = bundles.Bundle(papers=[], claims={}, rows=(STOP,))
        self.assertEqual(len(bundle), 1)
        self.assertEqual(maker.made(rule=rules.Rule(), deeds=()), bundle)
        self.assertIsNone(counters.counter(reach=1, rule=rules.Rule(), deeds=()))
        for one_pass in (thinning.thinned, sparing.spared, leading.led_on, sureness.surely):
            self.assertEqual(one_pass(rule=rules.Rule(), bundle=bundle), bundle)
        self.assertEqual(thinning.renamed(names=[3, 4, 5], rule=rules.Rule(), bundle=bundle), bundle)
        self.assertEqual(passes.passed(words=["spared"], rule=rules.Rule(), bundle=bundle), bundle)
        self.assertEqual(desk.Desk().say(row="names"), "-")

    def test_names_are_not_handed_in_by_place(self):
        with self.assertRaises(TypeError):
            forms.form_text((1,), [])
        with self.assertRaises(TypeError):
            forms.read_form("1", [])
        for call, done in ((runs.run, (STOP,)), (runs.way, (STOP,)), (deeds.deeds_run, ())):
            with self.assertRaises(TypeError):
                call(done, rules.Rule(), (0, 0, 0), {})


class NothingIsChangedTest(unittest.TestCase):

    def test_lists_stay(self):
        worths, others, names = [1, 2], [(1,), (2,)], ["b", "a"]
        forms.worth((0, 1, 1), worths)
        forms.holds_at((0, 1, 1), worths)
        forms.led((0, 1, 1), others)
        forms.form_text((0, 1, 1), names=names)
        forms.read_form("b + a", names=names)
        self.assertEqual((worths, others, names), ([1, 2], [(1,), (2,)], ["b", "a"]))

    def test_lists_stay_where_something_is_refused(self):
        names, claims = ["b", "b"], {1: None, 0: [FORM], "a": 5}
        with self.assertRaises(NoForm):
            forms.read_form("b", names=names)
        with self.assertRaises(NoClaims):
            rows.look_claims((STOP,), claims)
        self.assertEqual((names, claims), (["b", "b"], {1: None, 0: [FORM], "a": 5}))

    def test_the_same_is_told_again(self):
        self.assertEqual([forms.read_form("x", names=["x"]) for _ in range(3)], [(0, 1)] * 3)
        self.assertEqual(rules.Rule().facts(), rules.Rule().facts())

    def test_two_rules_know_nothing_of_one_another(self):
        one, other = rules.Rule([(1, 0, 0, 0)]), rules.Rule([(2, 0, 0, 0)])
        one.facts().append(3)
        self.assertEqual((one.facts(), other.facts()), ([(1, 0, 0, 0)], [(2, 0, 0, 0)]))


class WhichRefusalTest(unittest.TestCase):

    def test_the_one_that_stands_first(self):
        with self.assertRaises(NoForm):
            forms.read_form(None, names=None)
        with self.assertRaises(NoText):
            forms.read_form(None, names=[])
        with self.assertRaises(NoRows):
            rows.look_claims(None, None)

    def test_great_and_deep_things_are_refused_as_others_are(self):
        for thing in (nested(30), [0] * 39000, "x" * 20000, {at: None for at in range(39000)}):
            with self.assertRaises(NoForm):
                forms.contrary(thing)
            with self.assertRaises(NoForm):
                forms.worth((0, 1), thing)
            with self.assertRaises(NoForm):
                forms.read_form("x", names=thing)
            with self.assertRaises(NoText):
                forms.read_form(thing, names=["x"])
            with self.assertRaises(NoRows):
                rows.look_rows(thing)
            with self.assertRaises(NoClaims):
                rows.look_claims((("jump", 1), STOP), thing)
            for call in (runs.run, runs.way):
                with self.assertRaises(NoRows):
                    call(thing, thing, thing)
                with self.assertRaises(NoRule):
                    call((STOP,), thing, thing)
                with self.assertRaises(NoStart):
                    call((STOP,), rules.Rule(), thing, memory=thing)
                with self.assertRaises(NoNumber):
                    call((STOP,), rules.Rule(), (0, 0, 0), budget=thing)
            with self.assertRaises(NoRule):
                wants.wants((STOP,), {}, thing)
            with self.assertRaises(NoPapers):
                papers.size(thing)
            self.assertFalse(papers.shows(thing, [], [], (0,)))
            self.assertIs(looker.lets_by(thing, thing), False)
            self.assertIs(looker.lets_by(bundles.Bundle((STOP,), {}), thing), False)
            with self.assertRaises(NoRule):
                finder.shown((STOP,), {}, thing)
            with self.assertRaises(NoText):
                texts.read_bundle(thing)
            with self.assertRaises(NoDeeds):
                deeds.look_deeds(thing)
            with self.assertRaises(NoDeeds):
                deeds.look_deeds((thing,))
            with self.assertRaises(NoStart):
                deeds.deeds_run((), rules.Rule(), thing)
            for call in (maker.made, counters.counter):
                with self.assertRaises(NoDeeds):
                    call((thing,), thing)
                with self.assertRaises(NoRule):
                    call((), thing)
            with self.assertRaises(NoNumber):
                counters.counter((), rules.Rule(), reach=thing)
            bundle = bundles.Bundle((STOP,), {})
            for one_pass in (thinning.thinned, sparing.spared, leading.led_on, sureness.surely):
                with self.assertRaises(NoRule):
                    one_pass(bundle, thing)
            with self.assertRaises(NoNames):
                thinning.renamed(bundle, rules.Rule(), thing)
            for words in (thing, [thing]):
                with self.assertRaises(NoPass):
                    passes.passed(bundle, rules.Rule(), words=words)
            with self.assertRaises(NoSaying):
                desk.Desk().say(thing)
            self.assertFalse(rules.is_start(thing, thing, thing))
            self.assertFalse(rules.is_start(rules.Rule(), thing, {}))


if __name__ == "__main__":
    unittest.main()
