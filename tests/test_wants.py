"""Points 12 to 14: trunks, what is known along them, and what is wanted there."""

import copy
import random
import unittest

from paperrows.bundles import Bundle
from paperrows.errors import NoArea, NoClaims, NoRows, NoRule
from paperrows.forms import holds_at, read_form, worth
from paperrows.rows import joins
from paperrows.rules import Rule
from paperrows.runs import way
from paperrows.wants import wants

STOP = ("stop",)
TRUE = read_form("1", names=["p0", "p1", "p2", "r0", "r1", "r2", "r3", "r4", "r5"])


def trunk_form(text, reads=0):
    """A form of a trunk with so many reads."""
    names = ["p0", "p1", "p2", "v0", "v1", "v2", "v3", "v4", "v5"] + [f"u{at}" for at in range(reads)]
    return read_form(text, names=names)


def trunk_forms(texts, reads=0):
    return [trunk_form(text, reads) for text in texts]


def claim(text):
    return read_form(text, names=["p0", "p1", "p2", "r0", "r1", "r2", "r3", "r4", "r5"])


def rule_form(text):
    return read_form(text, names=["p0", "p1", "p2"])


def area(first, end, rights="both", low=None, high=None):
    bounds = (low, high) if low is None else (rule_form(low), rule_form(high))
    return (rule_form(first), rule_form(end), rights, *bounds)


def want(row, sort, hints, unlikes, goal, reads=0):
    return (row, sort, trunk_forms(hints, reads), trunk_forms(unlikes, reads), trunk_form(goal, reads))


class TrunkTest(unittest.TestCase):

    def told(self, rows, claims, rule, *expected):
        self.assertEqual(wants(rows, claims, rule), list(expected))

    def test_the_start(self):
        rule = Rule([rule_form("p0 - 1"), rule_form("p1 - p2")], ends=[claim("r0 + r3"), claim("p1 + r1 - 2*r2 + r5 - 7")])
        facts = ["p0 - 1", "p1 - p2"]
        self.told(
            (STOP,), {}, rule,
            want(0, "ends", facts, [], "p0"),
            want(0, "ends", facts, [], "2*p1 - 2*p2 - 7"),
        )

    def test_facts_of_areas_are_hints(self):
        rule = Rule(areas=[area("p0", "p1", "read", "p2", "9"), area("p1 + 4", "2*p1")], ends=[claim("r0")])
        facts = ["-p0 + p1", "4", "p1 - 4", "-p2 + 9"]
        self.told((STOP,), {}, rule, want(0, "ends", facts, [], "p0"))

    def test_a_told_place(self):
        rule = Rule([rule_form("p0")], ends=[claim("r0 - r5")])
        rows = (("jump", 1), STOP)
        self.told(
            rows, {1: [claim("-p1 + r0 + 2*r5"), claim("p2 - r3 - 1")]}, rule,
            want(0, "claim", ["p0"], [], "p0 - p1"),
            want(0, "claim", ["p0"], [], "p2 - 1"),
            want(1, "ends", ["p0", "-p1 + v0 + 2*v5", "p2 - v3 - 1"], [], "v0 - v5"),
        )

    def test_each_word_makes_its_register(self):
        ends = [claim(f"r{k}") for k in range(6)]
        begin = ("v0", "v1", "v2", "v3", "v4", "v5")
        for row, at, told in (
            (("set", 3, -7), 3, "-7"), (("set", 0, 0), 0, "0"), (("copy", 4, 1), 4, "v1"), (("copy", 2, 2), 2, "v2"),
            (("plus", 5, 0, 1), 5, "v0 + v1"), (("plus", 1, 1, 1), 1, "2*v1"), (("minus", 0, 2, 3), 0, "v2 - v3"),
            (("minus", 2, 2, 2), 2, "0"), (("more", 1, 4, 1000000), 1, "v4 + 1000000"), (("more", 1, 1, -3), 1, "v1 - 3"),
            (("fold", 0, 5, -4), 0, "-4*v5"), (("fold", 3, 3, 0), 3, "0"), (("fold", 3, 3, 1), 3, "v3"),
        ):
            worths = [told if k == at else text for k, text in enumerate(begin)]
            with self.subTest(row=row):
                found = wants((("jump", 1), row, STOP), {1: []}, Rule(ends=ends))
                self.assertEqual(found, [want(2, "ends", [], [], text) for text in worths])

    def test_rows_are_done_in_turn(self):
        rows = (
            ("set", 3, 7), ("copy", 4, 3), ("plus", 5, 3, 0), ("minus", 0, 5, 1), ("more", 1, 0, -4), ("fold", 2, 1, -3), STOP,
        )
        ends = [claim(f"r{k}") for k in range(6)]
        texts = ["p0 - p1 + 7", "p0 - p1 + 3", "-3*p0 + 3*p1 - 9", "7", "7", "p0 + 7"]
        self.told(rows, {}, Rule(ends=ends), *[want(6, "ends", [], [], text) for text in texts])

    def test_over_below_and_same_up_to_a_stop(self):
        rows = (("below", 0, 1, 3), ("same", 1, 2, 3), STOP, STOP)
        rule = Rule(ends=[claim("r0")])
        self.told(
            rows, {3: [claim("r1 - 2")]}, rule,
            want(0, "claim", ["-p0 + p1 - 1"], [], "p1 - 2"),
            want(1, "claim", ["p0 - p1", "p1 - p2", "-p1 + p2"], [], "p1 - 2"),
            want(2, "ends", ["p0 - p1"], ["p1 - p2"], "p0"),
            want(3, "ends", ["v1 - 2"], [], "v0"),
        )

    def test_hints_and_unlikes_are_kept_in_turn(self):
        rows = (
            ("same", 0, 1, 6), ("below", 2, 0, 6), ("more", 0, 0, 5), ("same", 0, 3, 6), ("below", 3, 4, 6), STOP, STOP,
        )
        self.told(
            rows, {6: [claim("r0")]}, Rule([rule_form("p0")], ends=[claim("r0")]),
            want(0, "claim", ["p0", "p0 - p1", "-p0 + p1"], [], "p0"),
            want(1, "claim", ["p0", "p0 - p2 - 1"], ["p0 - p1"], "p0"),
            want(3, "claim", ["p0", "-p0 + p2", "p0 + 5", "-p0 - 5"], ["p0 - p1"], "p0 + 5"),
            want(4, "claim", ["p0", "-p0 + p2", "-1"], ["p0 - p1", "p0 + 5"], "p0 + 5"),
            want(5, "ends", ["p0", "-p0 + p2", "0"], ["p0 - p1", "p0 + 5"], "p0 + 5"),
            want(6, "ends", ["p0", "v0"], [], "v0"),
        )

    def test_up_to_a_jump(self):
        rows = (("set", 3, 1), ("jump", 3), ("set", 4, 1), STOP)
        rule = Rule(ends=[claim("r3")])
        self.told(
            rows, {3: [claim("r3")]}, rule,
            want(1, "claim", [], [], "1"),
            want(3, "ends", ["v3"], [], "v3"),
        )

    def test_up_to_a_told_place(self):
        # The place 2 is told, though no row leads to it.
        rows = (("set", 3, 1), ("set", 4, 2), ("set", 5, 3), STOP)
        self.told(
            rows, {2: [claim("r3"), claim("r5")]}, Rule(ends=[claim("r3 + r5")]),
            want(1, "claim", [], [], "1"),
            want(1, "claim", [], [], "0"),
            want(3, "ends", ["v3", "v5"], [], "v3 + 3"),
        )

    def test_rows_on_no_trunk(self):
        rows = (("jump", 3), ("write", 0, 0, 0, 0), STOP, STOP)
        rule = Rule(areas=[area("0", "1")], ends=[claim("r0")])
        self.told(rows, {3: []}, rule, want(3, "ends", ["1"], [], "v0"))

    def test_trunks_rising(self):
        rows = (("jump", 5), STOP, STOP, STOP, STOP, STOP)
        found = wants(rows, {5: [], 2: [], 4: [], 1: []}, Rule(ends=[claim("r0")]))
        self.assertEqual([row for row, *_ in found], [1, 2, 4, 5])


class ReadsTest(unittest.TestCase):

    RULE = Rule(areas=[area("p0", "p1", "both", "3", "p2"), area("p1", "p1 + 4")])
    FACTS = ["-p0 + p1", "0", "4", "p2 - 3"]

    def test_each_read_is_a_new_unknown(self):
        rows = (
            ("read", 3, 0, 2, 0), ("write", 3, -1, 3, 1), ("read", 3, 3, 0, 1), ("read", 4, 3, 0, 0), ("plus", 5, 3, 4), STOP,
        )
        behind = self.FACTS + ["u0 - 3", "p2 - u0"]
        rule = Rule((), self.RULE.areas, [claim("r5")])
        self.assertEqual(wants(rows, {}, rule), [
            want(0, "first", self.FACTS, [], "2", 3),
            want(0, "end", self.FACTS, [], "-p0 + p1 - 3", 3),
            want(1, "first", behind, [], "-p1 + u0 - 1", 3),
            want(1, "end", behind, [], "p1 - u0 + 4", 3),
            want(2, "first", behind, [], "-p1 + u0", 3),
            want(2, "end", behind, [], "p1 - u0 + 3", 3),
            want(3, "first", behind, [], "-p0 + u1", 3),
            want(3, "end", behind, [], "p1 - u1 - 1", 3),
            want(5, "ends", behind + ["u2 - 3", "p2 - u2"], [], "u1 + u2", 3),
        ])

    def test_reads_behind_a_row_are_counted(self):
        # All forms of a trunk are as long as one another, whatever stands behind.
        rows = (("below", 0, 1, 3), ("read", 0, 0, 0, 1), ("read", 0, 0, 0, 1), ("read", 0, 0, 0, 1), STOP)
        found = wants(rows, {3: [claim("r0")], 4: []}, self.RULE)
        self.assertEqual({len(form) for row, _, hints, unlikes, goal in found if row < 3 for form in [*hints, goal]}, {12})
        self.assertEqual({len(form) for row, _, hints, unlikes, goal in found if row == 3 for form in [*hints, goal]}, {11})
        self.assertEqual(found[0], want(0, "claim", self.FACTS + ["-p0 + p1 - 1"], [], "p0", 2))

    def test_each_trunk_counts_its_own(self):
        rows = (("read", 0, 0, 0, 1), ("jump", 2), ("read", 1, 0, 0, 1), ("read", 2, 1, 0, 1), STOP)
        rule = Rule((), self.RULE.areas, [claim("r0 + r1 + r2")])
        found = wants(rows, {2: []}, rule)
        self.assertEqual(found[-1], want(4, "ends", self.FACTS, [], "v0 + u0 + u1", 2))
        self.assertEqual(len(found[0][4]), 11)

    def test_a_read_of_its_own_place(self):
        rows = (("read", 0, 0, 0, 0), ("read", 0, 0, 0, 0), STOP)
        found = wants(rows, {}, self.RULE)
        self.assertEqual(found[2], want(1, "first", self.FACTS + ["u0 - 3", "p2 - u0"], [], "-p0 + u0", 2))

    def test_way_to_the_next_row_behind_a_read(self):
        rows = (("read", 3, 0, 0, 0), STOP)
        self.assertEqual(wants(rows, {1: [claim("r3 - 3")]}, self.RULE), [
            want(0, "first", self.FACTS, [], "0", 1),
            want(0, "end", self.FACTS, [], "-p0 + p1 - 1", 1),
            want(0, "claim", self.FACTS + ["u0 - 3", "p2 - u0"], [], "u0 - 3", 1),
        ])


class WritesTest(unittest.TestCase):

    def test_first_end_low_and_high(self):
        rule = Rule(areas=[area("p0", "p1 + 2", "both", "p2 - 1", "3*p2"), area("8", "9")])
        facts = ["-p0 + p1 + 2", "-p1 + 6", "1", "2*p2 + 1"]
        rows = (("write", 1, 4, 2, 0), ("write", 3, 8, 0, 1), STOP)
        self.assertEqual(wants(rows, {}, rule), [
            want(0, "first", facts, [], "-p0 + p1 + 4"),
            want(0, "end", facts, [], "-3"),
            want(0, "low", facts, [], "1"),
            want(0, "high", facts, [], "2*p2"),
            want(1, "first", facts, [], "0"),
            want(1, "end", facts, [], "0"),
        ])

    def test_a_write_behind_tests(self):
        rule = Rule(areas=[area("0", "9", "both", "0", "1")])
        rows = (("below", 0, 1, 3), ("same", 0, 2, 3), ("write", 0, 0, 1, 0), STOP)
        found = wants(rows, {3: []}, rule)
        self.assertEqual([(row, sort) for row, sort, *_ in found], [(2, "first"), (2, "end"), (2, "low"), (2, "high")])
        for _, _, hints, unlikes, _ in found:
            self.assertEqual((hints, unlikes), (trunk_forms(["9", "1", "p0 - p1"]), trunk_forms(["p0 - p2"])))

    def test_a_write_ahead_of_a_told_place(self):
        rule = Rule(areas=[area("0", "9", "both", "0", "1")])
        rows = (("write", 0, 0, 1, 0), STOP)
        found = wants(rows, {1: [claim("r0"), claim("r1")]}, rule)
        self.assertEqual([(row, sort) for row, sort, *_ in found],
                         [(0, "first"), (0, "end"), (0, "low"), (0, "high"), (0, "claim"), (0, "claim")])
        self.assertEqual(found[4][2], trunk_forms(["9", "1"]))


class ClaimsTest(unittest.TestCase):

    def test_a_told_place_behind_each_kind_of_row(self):
        rule = Rule(areas=[area("p0", "p1")])
        fact = "-p0 + p1"
        for row, sorts, hints, unlikes, goal in (
            (("set", 0, 4), [], [], [], "4"), (("copy", 0, 1), [], [], [], "p1"), (("plus", 0, 1, 2), [], [], [], "p1 + p2"),
            (("minus", 0, 1, 2), [], [], [], "p1 - p2"), (("more", 0, 2, 4), [], [], [], "p2 + 4"),
            (("fold", 0, 2, 4), [], [], [], "4*p2"), (("write", 0, 0, 0, 0), ["first", "end"], [], [], "p0"),
            (("below", 1, 2, 2), [], ["p1 - p2"], [], "p0"), (("same", 1, 2, 2), [], [], ["p1 - p2"], "p0"),
        ):
            with self.subTest(row=row):
                found = wants((row, STOP, STOP), {1: [claim("r0")], 2: []}, rule)
                self.assertEqual([(at, sort) for at, sort, *_ in found], [(0, sort) for sort in [*sorts, "claim"]])
                self.assertEqual(found[-1], want(0, "claim", [fact] + hints, unlikes, goal))

    def test_both_ways_of_a_test_to_told_places(self):
        for word, taken, kept, apart in (
            ("below", ["-p0 + p1 - 1"], ["p0 - p1"], []), ("same", ["p0 - p1", "-p0 + p1"], [], ["p0 - p1"]),
        ):
            rows = ((word, 0, 1, 2), STOP, STOP)
            self.assertEqual(wants(rows, {1: [claim("r0"), claim("r1")], 2: [claim("r2"), claim("r3")]}, Rule()), [
                want(0, "claim", taken, [], "p2"),
                want(0, "claim", taken, [], "0"),
                want(0, "claim", kept, apart, "p0"),
                want(0, "claim", kept, apart, "p1"),
            ])

    def test_both_ways_to_the_same_place(self):
        rows = (("below", 0, 1, 1), STOP)
        self.assertEqual(wants(rows, {1: [claim("r0")]}, Rule()), [
            want(0, "claim", ["-p0 + p1 - 1"], [], "p0"),
            want(0, "claim", ["p0 - p1"], [], "p0"),
        ])

    def test_none_one_and_two_claims(self):
        for row, hints in ((("jump", 2), []), (("below", 0, 1, 2), ["-p0 + p1 - 1"])):
            for texts in ([], ["r0"], ["r0", "r1 - 5"], ["r0"] * 8):
                rows = (row, STOP, STOP)
                goals = [text.replace("r", "p") for text in texts]
                found = wants(rows, {2: [claim(text) for text in texts]}, Rule())
                self.assertEqual(found, [want(0, "claim", hints, [], goal) for goal in goals])

    def test_a_jump_does_not_go_to_the_next_row(self):
        rows = (("jump", 2), STOP, STOP)
        self.assertEqual(wants(rows, {1: [claim("r0")], 2: []}, Rule()), [])
        self.assertEqual(wants((STOP, STOP), {1: [claim("r0")]}, Rule()), [])

    def test_a_way_back(self):
        rows = (("set", 3, 0), ("more", 3, 3, 1), ("below", 3, 0, 1), STOP)
        rule = Rule(ends=[claim("-r0 + r3"), claim("p0 - r0")])
        self.assertEqual(wants(rows, {1: [claim("p0 - r0")]}, rule), [
            want(0, "claim", [], [], "0"),
            want(2, "claim", ["p0 - v0", "v0 - v3 - 2"], [], "p0 - v0"),
            want(3, "ends", ["p0 - v0", "-v0 + v3 + 1"], [], "-v0 + v3 + 1"),
            want(3, "ends", ["p0 - v0", "-v0 + v3 + 1"], [], "p0 - v0"),
        ])

    def test_claims_of_great_numbers(self):
        great = 10 ** 500 - 1
        form = (great, 0, 0, 0, great, 0, 0, 0, 0, -great)
        found = wants((("fold", 0, 0, 1000000), STOP), {1: [form]}, Rule())
        self.assertEqual(found, [(0, "claim", [], [], (great, great * 1000000) + (0,) * 8)])


class RefusedTest(unittest.TestCase):

    def refused(self, kind, rows, claims, rule):
        with self.assertRaises(kind) as told:
            wants(rows, claims, rule)
        return getattr(told.exception, "at", None)

    def test_areas_that_are_not_there(self):
        one = area("0", "1", "read")
        read, write = ("read", 0, 0, 0, 1), ("write", 0, 0, 0, 0)
        for rows, areas, at in (
            ((read, STOP), [], 0), ((read, STOP), [one], 0), ((write, STOP), [], 0), ((write, STOP), [one], 0),
            ((STOP, read, STOP), [one], 1), ((STOP, write, read, STOP), [one], 1), ((("jump", 2), write, STOP), [one], 1),
            ((("read", 0, 0, 0, 0), ("read", 1, 1, 0, 2), write, STOP), [one, one], 1),
        ):
            with self.subTest(rows=rows):
                claims = {place: [] for place in joins(rows)}
                self.assertEqual(self.refused(NoArea, rows, claims, Rule(areas=areas)), at)
        self.assertEqual(wants((("read", 0, 0, 0, 2), STOP), {}, Rule(areas=[one] * 3))[0][1], "first")

    def test_in_turn(self):
        rows, wrong = (("read", 0, 0, 0, 0), ("jump", 1)), ((), None, [STOP])
        self.assertEqual(self.refused(NoArea, rows, {1: []}, Rule()), 0)
        for rule in (None, True, (), "", {}, Rule, ((), (), ())):
            self.refused(NoRule, rows, {1: []}, rule)
            self.assertEqual(self.refused(NoClaims, rows, {}, rule), 1)
            self.assertEqual(self.refused(NoClaims, rows, None, rule), None)
            for thing in wrong:
                self.refused(NoRows, thing, None, rule)
        self.assertEqual(self.refused(NoClaims, rows, {}, Rule()), 1)
        self.assertEqual(self.refused(NoRows, (("jump", 0), STOP), {}, Rule()), 0)

    def test_bundles_and_texts(self):
        self.refused(NoRows, Bundle((STOP,), {}), {}, Rule())
        self.refused(NoClaims, (STOP,), Bundle((STOP,), {}), Rule())


class OwnTest(unittest.TestCase):

    ROWS = (("below", 0, 1, 2), ("same", 0, 1, 2), ("jump", 2))
    CLAIMS = {2: [claim("r0"), claim("r1")], 1: [claim("r0 - r1")]}
    RULE = Rule([rule_form("p0")])

    def test_told_lists_are_the_askers_own(self):
        held = copy.deepcopy(wants(self.ROWS, self.CLAIMS, self.RULE))
        for at in range(len(held)):
            told = wants(self.ROWS, self.CLAIMS, self.RULE)
            told[at][2].append(1)
            told[at][3].append(2)
            for other in range(len(held)):
                if other != at:
                    self.assertEqual(told[other], held[other])
            self.assertEqual(wants(self.ROWS, self.CLAIMS, self.RULE), held)

    def test_what_is_handed_in_stays(self):
        claims = copy.deepcopy(self.CLAIMS)
        wants(self.ROWS, claims, self.RULE).clear()
        self.assertEqual(claims, self.CLAIMS)
        self.assertEqual(self.RULE.facts(), [rule_form("p0")])


class RunsTest(unittest.TestCase):
    """What is known along a trunk holds on each run that goes along it."""

    RULE = Rule(areas=[area("-40", "40", "both"), area("50", "60", "read", "0", "7")], ends=[claim(f"r{k}") for k in range(6)])
    MEMORY = {place: place * 5 // 3 for place in range(-40, 40)} | {place: place - 51 for place in range(51, 59)}

    def row(self, chance, many):
        reg = [chance.randrange(6) for _ in range(3)]
        number = chance.randrange(-3, 4)
        word = chance.choice(["set", "copy", "plus", "minus", "more", "fold", "read", "jump", "below", "same", "stop", "below"])
        return {
            "set": (word, reg[0], number), "copy": (word, *reg[:2]), "plus": (word, *reg), "minus": (word, *reg),
            "more": (word, *reg[:2], number), "fold": (word, *reg[:2], number), "jump": (word, chance.randrange(1, many)),
            "below": (word, *reg[:2], chance.randrange(1, many)), "same": (word, *reg[:2], chance.randrange(1, many)),
            "read": (word, *reg[:2], number, 0), "stop": STOP,
        }[word]

    def test_hints_hold_and_goals_come_to_what_the_registers_hold(self):
        chance = random.Random(5)
        seen = 0
        for _ in range(400):
            many = chance.randrange(3, 12)
            rows = tuple(self.row(chance, many) for _ in range(many - 1)) + (STOP,)
            claims = {place: [] for place in joins(rows)}
            asked = {place: [claim(f"r{k}") for k in range(6)] for place in claims}
            p = tuple(chance.randrange(-5, 6) for _ in range(3))
            steps = way(rows, self.RULE, p, memory=self.MEMORY, budget=60)
            told = wants(rows, asked, self.RULE)
            seen += self.walked(rows, asked, p, steps, told)
        self.assertGreater(seen, 500)

    def walked(self, rows, claims, p, steps, told):
        """Ask of each part of a run that is a whole trunk what its last row wants; tell how many were asked."""
        parts, begin = [], 0
        for k, (at, _) in enumerate(steps):
            if k and (at in claims or rows[steps[k - 1][0]][0] == "jump"):
                parts.append(steps[begin:k + 1])
                begin = k
        for part in parts:
            self.asked(rows, claims, p, part, told)
        return len(parts)

    def asked(self, rows, claims, p, part, told):
        (begin, first), (last, _), (following, registers) = part[0], part[-2], part[-1]
        reads = [part[k + 1][1][rows[at][1]] for k, (at, _) in enumerate(part[:-1]) if rows[at][0] == "read"]
        found = [one for one in told if one[0] == last and one[1] == "claim"]
        if rows[last][0] in ("below", "same") and last + 1 in claims:
            # The ways to t are told first, six claims each; where both lead to one place, the hints tell them apart.
            found = found[:6] if self.taken(rows[last], part[-2][1]) else found[6:]
        self.assertEqual(len(found), 6)
        length = len(found[0][4])
        begun = [*p, *first] + reads
        worths = begun + [0] * (length - 1 - len(begun))
        for k, (_, _, hints, unlikes, goal) in enumerate(found):
            self.assertEqual(worth(goal, worths), registers[k])
            for hint in hints[len(self.RULE.facts()) + (6 if begin else 0):]:
                self.assertTrue(holds_at(hint, worths))
            for unlike in unlikes:
                self.assertNotEqual(worth(unlike, worths), 0)
        self.assertIn(following, claims)

    def taken(self, row, registers):
        one, other = registers[row[1]], registers[row[2]]
        return one < other if row[0] == "below" else one == other


if __name__ == "__main__":
    unittest.main()
