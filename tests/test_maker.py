"""Point 21: bundles that are made of deeds."""

import copy
import random
import unittest

import chance as by_chance
import reference
from by_text import area, below, claims, given, if_so, keeps, let, read, same, while_so, write
from paperrows.bundles import Bundle
from paperrows.counters import counter
from paperrows.deeds import deeds_run, look_deeds
from paperrows.errors import NoArea, NoDeeds, NoRule, Unmade
from paperrows.finder import found
from paperrows.looker import lacking, lets_by
from paperrows.maker import made
from paperrows.rules import Rule, is_start
from paperrows.runs import run
from paperrows.texts import bundle_text, read_bundle

# An area of p0 places that may be written with -9 to 9, one of two places that may be read, and one for any worths.
RULE = Rule(given("p0", "p1"), [area("0", "p0", "both", "-9", "9"), area("p0", "p0 + 2", "read", "0", "5"),
                                area("p0 + 4", "p0 + 9", "both")])
PLACED = ("d", "p0 - a", "-p0 + a")
UPWARD = while_so(below("d - a"), PLACED, read("c", 0, "d"), let("d", "d + 1"))
DOWNWARD = while_so(below("-d"), ("d", "p0 - d", "9 - c", "c + 9"), let("d", "d - 1"), write(0, "d", "c"))


class MakerTest(unittest.TestCase):

    def made(self, deeds, rule=RULE):
        """A bundle that is made, and looked at, and run from each start of a box as the deeds are."""
        held = copy.deepcopy((deeds, rule.given, rule.areas, rule.ends))
        bundle = made(deeds, rule)
        self.assertEqual((deeds, rule.given, rule.areas, rule.ends), held)
        self.assertIsInstance(bundle, Bundle)
        self.assertIsNone(lacking(bundle, rule))
        self.assertIsNone(reference.lacking_of(bundle, rule))
        self.assertLessEqual(len(bundle), 300)
        self.assertEqual(made(deeds=deeds, rule=rule), bundle)
        self.assertTrue(lets_by(read_bundle(bundle_text(bundle)), rule))
        self.assertIsNone(counter(deeds, rule, reach=1))
        for p in [(one, other, third) for one in (0, 1, 2, 4) for other in (-1, 0, 3) for third in (-2, 0, 5)]:
            for memory in ({}, {0: -9, 1: 4, 2: 9, 3: 1, 4: 5, 5: 2, 9: 77}):
                if is_start(rule, p, memory):
                    self.runs_alike(bundle, deeds, rule, p, memory)
        return bundle

    def runs_alike(self, bundle, deeds, rule, p, memory):
        word, names, left, _ = deeds_run(deeds, rule, p, memory=memory, budget=400)
        told = run(bundle.rows, rule, p, memory=memory, budget=20 * 400 + 20)
        self.assertIn((word, told.word), (("ended", "stopped"), ("open", "open"), ("open", "stopped")))
        if word == "ended":
            self.assertEqual((told.registers[:4], told.memory()), (names, left))
            taken = next(many for many in range(401)
                         if deeds_run(deeds, rule, p, memory=memory, budget=many)[0] == "ended")
            self.assertLessEqual(told.steps, 20 * taken + 20)

    def unmade(self, deeds, deed, kind, rule=RULE):
        with self.assertRaises(Unmade) as told:
            made(deeds, rule)
        self.assertEqual((told.exception.deed, told.exception.kind), (deed, kind))
        self.assertEqual(reference.DeedWants(deeds, rule).lacking(found), (deed, kind))


class EachKindTest(MakerTest):

    def test_no_deeds(self):
        self.made(())
        self.made((), Rule())
        bundle = self.made((), Rule(given("p0"), [], claims("r0", "r0 - p0 + 1", "-r3")))
        self.assertEqual(bundle.rows[-1], ("stop",))
        self.unmade((), 0, "ends", Rule([], [], claims("r0")))

    def test_lets(self):
        for text in ("0", "5", "a", "-a", "a + 1", "d", "b + c", "b - c", "2*a - 3*b + c - d + 7", "a + b + c + d",
                     "-a - b - c - d - 1", "1000000*a - 1000000*b + 1000000", "-1000000", "1000000*d - 1000000"):
            for name in "abcd":
                self.made((let(name, text),))

    def test_a_let_does_what_its_sum_tells(self):
        for name in "abcd":
            for text in ("a + b", "-b + 3", "2*a + b - c + d", "1000000*a - 1000000*c"):
                told = run(made((let("d", "c + 1"), let(name, text)), RULE).rows, RULE, (3, 5, -2))
                worths = [3, 5, -2, -1]
                form = reference.form_of(text, ["a", "b", "c", "d"])
                worths["abcd".index(name)] = form[0] + sum(one * other for one, other in zip(form[1:], worths))
                self.assertEqual(told.registers[:4], tuple(worths))

    def test_reads_and_writes(self):
        self.made((read("b", 1, "a"), read("c", 1, "a + 1"), write(2, "a + 8", "b"), read("d", 2, "a + 4")))
        self.made((let("b", "3*a + 4"), write(2, "b - 2*a", "b")))
        few = Rule(given("p0 - 3"), RULE.areas)
        self.made((read("a", 0, "0"), write(0, "2", "a"), let("c", "9"), write(0, "b - b + 1", "c")), few)

    def test_tests_both_ways(self):
        for test in (below("a - b"), same("a - b"), below("1"), same("0"), below("2*a - 3*b + 4"), same("c - 5")):
            for deeds in ((), (let("d", "1"),)):
                for others in ((), (let("d", "2"), let("c", "0"))):
                    self.made((if_so(test, (), deeds, others),))
        self.made((while_so(below("d - 5"), (), let("d", "d + 1")),))
        self.made((while_so(same("d"), (), let("d", "d + 1")),))
        self.made((while_so(below("1"), ()),))

    def test_how_a_test_came_out_is_known(self):
        rule = Rule([], [], claims("r3"))
        self.made((if_so(below("a - b"), (), [let("d", "b - a - 1")], [let("d", "a - b")], ("d",)),), rule)
        self.unmade((if_so(below("a - b"), (), [let("d", "b - a - 2")], [let("d", "a - b")], ("d",)),), 0, "behind", rule)
        self.unmade((if_so(below("a - b"), (), [let("d", "b - a - 1")], [let("d", "a - b - 1")], ("d",)),), 0, "behind", rule)
        self.made((if_so(same("a - b"), (), [let("d", "5*a - 5*b")], [let("d", "0")], ("d", "-d")),), rule)
        # Apart from one another, the one that is less is less by 1.
        other = Rule(given("p0 - p1"), [], claims("r3"))
        self.made((if_so(same("a - b"), ("a - b",), [let("d", "0")], [let("d", "a - b - 1")], ("d",)),), other)
        self.unmade((if_so(same("a - b"), ("a - b",), [let("d", "0")], [let("d", "a - b - 2")], ("d",)),), 0, "behind", other)
        self.unmade((if_so(same("a - b"), (), [let("d", "0")], [let("d", "a - b - 1")], ("d",)),), 0, "behind", other)

    def test_nothing_else_is_known_behind_a_station(self):
        rule = Rule(given("p0"), [], claims("r0"))
        self.made((let("d", "1"),), rule)
        self.unmade((if_so(below("b"), (), ()),), 1, "ends", rule)
        self.unmade((if_so(below("b"), ("a",), ()),), 1, "ends", rule)
        self.made((if_so(below("b"), ("a",), (), (), ("a",)),), rule)
        self.unmade((if_so(below("b"), (), (), (), ("a",)),), 0, "behind", rule)
        self.unmade((while_so(below("b"), ()),), 1, "ends", rule)
        self.made((while_so(below("b"), ("a",)),), rule)
        # The facts of p0 are known all the same.
        self.made((while_so(below("b"), ()), let("a", "0")), Rule(given("p0"), [], claims("p0", "r0")))


class LoopsTest(MakerTest):

    def test_upward_and_downward(self):
        self.made((UPWARD,))
        self.made((let("c", "7"), let("d", "a"), DOWNWARD))
        self.unmade((let("c", "10"), let("d", "a"), DOWNWARD), 2, "keep")
        self.unmade((let("c", "7"), let("d", "a + 1"), DOWNWARD), 2, "keep")
        bundle = self.made((let("b", "0"), while_so(below("d - a"), PLACED, read("c", 0, "d"),
                                                    if_so(below("b - c"), ("d", "-d + p0 - 1", "p0 - a", "-p0 + a"),
                                                          [let("b", "c")], (), ("d", "-d + p0 - 1", "p0 - a", "-p0 + a")),
                                                    let("d", "d + 1"))))
        self.assertEqual(run(bundle.rows, RULE, (4, 0, 0), memory={0: 3, 1: 8, 2: -9, 3: 7}).registers[1], 8)

    def test_ifs_with_others_and_whiles_within(self):
        kept = ("d", "-d + p0 - 1", "p0 - a", "-p0 + a")
        wrong = ("c - 1", "9 - c", *kept[:2])
        self.made((while_so(
            below("d - a"), PLACED, read("c", 0, "d"),
            if_so(below("c"), (*kept,), [let("c", "0")], [let("c", "1")], (*kept,)), let("b", "3"),
            while_so(below("-b"), kept, let("b", "b - 1")), let("d", "d + 1")),))
        self.unmade((while_so(
            below("d - a"), PLACED, read("c", 0, "d"), if_so(below("c"), wrong, [], (), ()), let("d", "0 - d")),),
            0, "keep")
        self.unmade((while_so(
            below("d - a"), PLACED, read("c", 0, "d"), if_so(below("c"), (), [], (), kept), let("d", "d + 1")),),
            2, "behind")

    def test_four_within_one_another(self):
        deed = let("d", "d + 1")
        for word in range(3):
            deeds = deed
            for at in range(3):
                if (word + at) % 2:
                    deeds = while_so(below(f"d - {at + 1}"), (), deeds)
                else:
                    deeds = if_so(same("a - d"), (), [deeds], (), ())
            self.made((deeds,))

    def test_twenty_deeds(self):
        wide = "2*a - 3*b + 4*c - 5*d + 6"
        self.made(tuple(let("abcd"[at % 4], wide) for at in range(20)))
        self.made(tuple(if_so(same(wide), (), ()) for _ in range(20)))
        self.made(tuple(while_so(below("a - a"), ()) for _ in range(20)))
        nest = if_so(below(wide), (), [if_so(same(wide), (), [if_so(below(wide), (), [let("a", wide)], [let("b", wide)])],
                                             [let("c", wide)])], [let("d", wide)])
        deeds = (nest,) * 2 + (if_so(same(wide), (), ()),) * 6
        look_deeds(deeds)
        self.assertEqual(len(deeds), 8)
        self.made(deeds)

    def test_stations_one_behind_another(self):
        empty = if_so(below("a"), (), (), ())
        self.made((empty, empty, while_so(same("a - 1"), ()), while_so(below("1"), ())))
        self.made((if_so(same("a"), (), [empty, if_so(below("b"), (), [empty], [empty])], [empty]), empty))
        self.made((while_so(below("d - 1"), (), while_so(below("d - 2"), (), let("d", "d + 1")), empty),))


class WhatLacksTest(MakerTest):

    def test_each_sort(self):
        few = Rule(given("p0 - 3"), RULE.areas, claims("r0 - 3"))
        self.made((read("d", 0, "2"),), few)
        self.unmade((read("d", 0, "-1"),), 0, "first", few)
        self.unmade((let("c", "0"), read("d", 0, "3")), 1, "end", few)
        self.unmade((write(0, "b - 1", "d"),), 0, "first", few)
        self.unmade((write(0, "b", "d"),), 0, "first", few)
        self.made((write(0, "0", "d"),), few)
        self.unmade((let("d", "-10"), write(0, "0", "d")), 1, "low", few)
        self.unmade((let("d", "10"), write(0, "0", "d")), 1, "high", few)
        self.unmade((write(0, "0", "b"),), 0, "low", few)
        self.unmade((while_so(below("d - 1"), ("d - 1",), let("d", "2")),), 0, "keep", few)
        self.unmade((let("a", "4"), if_so(below("d"), (), (), (), ("a - 4",))), 1, "behind", few)
        self.unmade((let("a", "2"),), 1, "ends", few)
        self.unmade((if_so(below("b"), ("a - 3",), [let("c", "1")], [let("a", "5")]),), 3, "ends", few)

    def test_a_keep_from_ahead_and_from_the_end_of_its_deeds(self):
        rule = Rule()
        self.made((while_so(below("d - 9"), ("d",), let("d", "d + 1")),), rule)
        self.unmade((let("d", "-1"), while_so(below("d - 9"), ("d",), let("d", "d + 1"))), 1, "keep", rule)
        self.unmade((while_so(below("d - 9"), ("d",), let("d", "d - 1")),), 0, "keep", rule)

    def test_the_least_deed_and_then_the_first_sort(self):
        # The keep of the while lacks behind its own deeds, whose read has a greater number.
        self.unmade((let("c", "1"), while_so(below("d - 9"), ("d",), read("d", 0, "-1"), let("d", "-1"))), 1, "keep")
        self.unmade((read("c", 0, "b - 1"), read("c", 0, "-1")), 0, "first")
        self.unmade((write(0, "-1", "b"),), 0, "first")
        self.unmade((if_so(below("d"), ("d - 1",), (), (), ("d - 1",)),), 0, "keep")
        self.unmade((if_so(below("d"), (), [read("c", 0, "-1")], (), ("d - 1",)),), 0, "behind")

    def test_keeps_none_and_four(self):
        four = ("d", "a - p0", "p0 - a", "b - p1")
        self.made((while_so(below("d - 3"), four, let("d", "d + 1")),))
        self.made((if_so(below("d - 3"), four, (), (), four),))

    def test_keeps_of_any_size(self):
        great = 10 ** 60 - 1
        keep = (great, 0, 0, 0, 0, 0, 0, great)
        self.made((("while", below("d - 3"), [keep], (let("d", "d + 1"),)),))
        with self.assertRaises(Unmade):
            made((("while", below("d - 3"), [(-great, *keep[1:])], (let("d", "d + 1"),)),), RULE)


class RefusalsTest(MakerTest):

    def test_no_rule(self):
        for thing in (None, 5, [], "rule", Rule):
            with self.assertRaises(NoRule):
                made((), thing)
        for register in ("r4", "r5"):
            for text in (register, f"-{register}", f"5*{register} + r0", f"p0 - 1000000*{register}"):
                with self.assertRaises(NoRule):
                    made((), Rule([], [], claims("0", text)))
        self.made((), Rule([], [], claims("0", "r3")))

    def test_no_area(self):
        rule = Rule([], RULE.areas[:2])
        wrong = read("a", 2, "0")
        for deeds, at in (
            ((wrong,), 0), ((let("a", "1"), wrong), 1), ((write(1, "0", "a"),), 0), ((write(2, "0", "a"),), 0),
            ((if_so(below("a"), (), [let("a", "1")], [wrong]),), 2), ((if_so(below("a"), (), [wrong], [wrong]),), 1),
            ((let("a", "1"), while_so(below("a"), ("a",), let("c", "1"), wrong), write(1, "0", "a")), 3),
            ((if_so(below("a"), (), [while_so(below("a"), (), write(1, "1", "b"))]),), 2),
        ):
            with self.assertRaises(NoArea) as told:
                made(deeds, rule)
            self.assertEqual(told.exception.at, at)

    def test_which_one_comes(self):
        wrong_ends = Rule([], [], claims("r5"))
        with self.assertRaises(NoDeeds) as told:
            made((let("a", "1"), 5), None)
        self.assertEqual(told.exception.at, 1)
        with self.assertRaises(NoRule):
            made((read("a", 0, "0"),), wrong_ends)
        with self.assertRaises(NoArea):
            made((let("a", "1"), read("a", 0, "0")), Rule([], [], claims("-1")))
        with self.assertRaises(Unmade):
            made((), Rule([], [], claims("-1")))

    def test_what_is_told_is_the_askers_own(self):
        kept = keeps(*PLACED)
        deeds = (("while", below("d - a"), kept, (let("d", "d + 1"),)),)
        bundle = made(deeds, RULE)
        held = (bundle.claims(), bundle.papers())
        kept.clear()
        bundle.claims()[1].clear()
        bundle.papers()[0][2].append(1)
        self.assertEqual((bundle.claims(), bundle.papers()), held)
        self.assertTrue(lets_by(bundle, RULE))


class ByChanceTest(MakerTest):

    def test_made_just_where_all_wants_have_papers(self):
        chance = random.Random(210)
        seen = {}
        for _ in range(700):
            rule, deeds = by_chance.deed_rule(chance), by_chance.Deeds(chance, chance.choice((2, 4, 8, 20))).all()
            try:
                bundle = made(deeds, rule)
            except NoArea:
                continue
            except Unmade as lack:
                self.assertEqual(reference.DeedWants(deeds, rule).lacking(found), (lack.deed, lack.kind))
                seen[lack.kind] = seen.get(lack.kind, 0) + 1
                continue
            self.assertIsNone(reference.DeedWants(deeds, rule).lacking(found))
            self.assertIsNone(reference.lacking_of(bundle, rule))
            self.assertIsNone(counter(deeds, rule, reach=1))
            for _ in range(3):
                p, memory = [chance.randint(-2, 4) for _ in range(3)], {chance.randint(0, 5): chance.randint(-2, 2)}
                if is_start(rule, p, memory):
                    self.runs_alike(bundle, deeds, rule, p, memory)
            seen["made"] = seen.get("made", 0) + 1
        self.assertGreater(min(seen[word] for word in ("made", "first", "keep", "behind", "ends")), 5, seen)


if __name__ == "__main__":
    unittest.main()
