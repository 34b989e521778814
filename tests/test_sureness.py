"""Points 23 and 25: tests one way of which is never gone are taken away."""

import random

import chance as by_chance
import reference
from by_text import area, claims, given
from paperrows.bundles import Bundle
from paperrows.finder import shown
from paperrows.papers import size
from paperrows.rules import Rule
from paperrows.sureness import surely
from pass_checks import STOP, PassTest
from test_leading import within


def takes(bundle, rule, deepest=10):
    """The places of tests that are to be taken away, with the way that is never gone: `t` or `on`."""
    rows, told_claims, told = bundle.rows, bundle.claims(), []
    shares = reference.papers_by_row(bundle, rule)
    for beginning in reference.beginnings_of(told_claims):
        trunk = reference.trunk_of(rows, told_claims, beginning)
        known = reference.Trunk(rows, told_claims, rule, beginning)
        for at in trunk:
            ahead = len(known.hints)
            known.row_wants(at, rows[at])
            if rows[at][0] not in ("below", "same"):
                continue
            mine, many = [paper for _, paper in shares.get(at, [])], len(told_claims[rows[at][3]])
            behind = mine[many:] + [paper for place in trunk if place > at for _, paper in shares.get(place, [])]
            is_stuck = at + 1 in told_claims and (at == 0 or at in told_claims)
            if alike(mine[:many], ahead + (1 if rows[at][0] == "below" else 2)) and not is_stuck:
                told.append((at, "t"))
            elif alike(behind, ahead + (1 if rows[at][0] == "below" else 0)):
                told.append((at, "on"))
    return told


def alike(papers, many):
    """Whether all papers, at least one, are nevers of the same weights of so many hints, and of no others."""
    if not papers or any(paper[0] != "never" or any(paper[1][many:]) for paper in papers):
        return False
    return len({tuple(paper[1][:many]) for paper in papers}) == 1


def without(rows, at, way):
    if way == "on":
        return tuple(("jump", row[3]) if place == at else row for place, row in enumerate(rows))
    return tuple((*row[:-1], row[-1] - (row[-1] > at)) if row[0] in by_chance.LEADS else row
                 for place, row in enumerate(rows) if place != at)


class SurelyTest(PassTest):

    def surely(self, bundle, rule, rows=None):
        told = self.passed(surely, bundle, rule, most_starts=12)
        if rows is not None:
            self.assertEqual(told.rows, rows)
        self.assertEqual(surely(told, rule), told)
        taken = sum(row[0] in ("below", "same") for row in bundle.rows) - sum(
            row[0] in ("below", "same") for row in told.rows)
        self.assertLessEqual(told.size(), bundle.size() * 2 ** taken)
        self.assertEqual(takes(bundle, rule) == [] , told == bundle)
        if told.papers() and max(reference.depth_of(paper) for paper in told.papers()) < 10:
            self.assertEqual(takes(told, rule), [])
        return told

    def stays(self, bundle, rule=Rule()):
        self.assertEqual(self.surely(bundle, rule), bundle)

    def test_a_way_to_t_that_is_never_gone(self):
        # r3 is 1 and r4 is 0, so neither is it below that, nor are they the same.
        rule = Rule([], [], claims("r5 - 2"))
        for word, weights in (("below", [1]), ("same", [0, 1])):
            rows = (("set", 3, 1), (word, 3, 4, 4), ("set", 5, 2), STOP, ("set", 5, 3), STOP)
            papers = [("never", weights)] * 2 + [("sum", 1, [0] if word == "below" else []), ("sum", 1, [0, 0])]
            told = self.surely(Bundle(rows, {4: claims("7", "r3")}, papers), rule,
                               (("set", 3, 1), ("set", 5, 2), STOP, ("set", 5, 3), STOP))
            self.assertEqual(told.claims(), {3: claims("7", "r3")})
            self.assertEqual(told.papers(), [("sum", 1, []), ("sum", 1, [0, 0])])

    def test_a_way_on_that_is_never_gone(self):
        # p1 is below p0, so the row 0 always leads to 3; what stands behind it reads from no such place.
        rule = Rule(given("p0 - p1 - 1", "p1"), [area("0", "p2", "read")], claims("p0"))
        rows = (("below", 1, 0, 3), ("read", 3, 0, 5, 0), STOP, STOP)
        told_claims = {3: claims("p0 - p1", "p0 - p1 - 1", "p0")}
        never = ("never", [1, 0, 0, 1])
        papers = [("sum", 1, [0, 0, 0, 1]), ("sum", 1, [0, 0, 0, 1]), ("sum", 1, [1, 1, 0, 0]),
                  never, never, never, ("sum", 1, [0, 0, 0, 0, 0, 1])]
        told = self.surely(Bundle(rows, told_claims, papers), rule, (("jump", 3), *rows[1:]))
        self.assertEqual(told.claims(), told_claims)
        # The way to 3 has lost its hint, and takes the never's weights for it.
        self.assertEqual(told.papers(), [("sum", 1, [1, 0, 0]), ("sum", 1, [1, 0, 0]), ("sum", 1, [1, 1, 0]), papers[6]])

    def test_a_same_whose_way_on_is_never_gone(self):
        # Only hints that are against one another already tell this.
        rule = Rule(given("p0", "-p0 - 1"), [], claims("5"))
        rows = (("same", 0, 3, 2), STOP, STOP)
        told_claims = {2: claims("p0", "r3")}
        for papers in (
            [("sum", 1, [1, 0, 0, 0]), ("sum", 1, [0, 0, 0, 0]), ("never", [1, 1]), ("sum", 1, [0, 0, 0, 0])],
            [("never", [0, 1, 1, 0]), ("sum", 1, [0, 0, 0, 0]), ("never", [1, 1]), ("sum", 1, [0, 0, 0, 0])],
        ):
            told = self.surely(Bundle(rows, told_claims, papers), rule, (("jump", 2), STOP, STOP))
            self.assertEqual([len(paper[-1]) for paper in told.papers()], [2, 2, 4])

    def test_both(self):
        rule = Rule(given("-1"), [], claims("p0"))
        for word in ("below", "same"):
            rows = (("set", 3, 1), (word, 0, 1, 3), STOP, STOP)
            ways = [("never", [1, 0] if word == "below" else [1, 0, 0]), ("never", [1, 0] if word == "below" else [1])]
            self.surely(Bundle(rows, {3: claims("r0")}, [*ways, ("never", [1, 0])]), rule, (rows[0], STOP, STOP))
            # A beginning ahead of a told place can't go: so it becomes the jump.
            rows = ((word, 0, 1, 2), ("jump", 2), STOP)
            told_claims = {1: claims("p0"), 2: claims("p1")}
            papers = [*ways, ("never", [1, 0]), ("never", [1, 0])]
            self.surely(Bundle(rows, told_claims, papers), rule, (("jump", 2), ("jump", 2), STOP))

    def test_no_want_on_the_way(self):
        self.stays(shown((("set", 3, 1), ("below", 3, 4, 3), STOP, STOP), {3: []}, Rule()))
        rule = Rule([], [], claims("r3 - 1"))
        self.assertEqual(len(self.surely(shown((("set", 3, 1), ("below", 3, 4, 3), STOP, STOP), {3: claims("r3 - 1")}, rule),
                                         rule)), 3)
        # On the way on there is no want as well: two belows, a stop without ends.
        self.stays(Bundle((("set", 3, 1), ("below", 4, 3, 3), STOP, STOP), {3: []}, []))

    def test_unlike_weights(self):
        rule = Rule(given("-1", "-2"))
        rows = (("below", 0, 1, 2), STOP, STOP)

        def bundle(*ways):
            return Bundle(rows, {2: claims("r0", "r1", "0")[:len(ways)]}, [("never", list(weights)) for weights in ways])
        for ways in (((1, 0, 0), (0, 1, 0)), ((1, 0, 0), (2, 0, 0)), ((1, 1, 0), (1, 1, 0), (1, 2, 0)), ((1, 0, 0), (1, 1, 0))):
            self.stays(bundle(*ways), rule)
        for ways in (((1, 0, 0), (1, 0, 0)), ((2, 7, 0),), ((1, 1, 0), (1, 1, 0), (1, 1, 0))):
            self.surely(bundle(*ways), rule, (STOP, STOP))
        # One of the papers is a sum.
        self.stays(Bundle(rows, {2: claims("r0", "0")}, [("never", [1, 0, 0]), ("sum", 1, [0, 0, 0])]), rule)
        # Or an apart, or a split of nevers.
        split = ("split", (1,) + (0,) * 9, ("never", [1, 0, 0, 0]), ("never", [1, 0, 0, 0]))
        self.stays(Bundle(rows, {2: claims("r0")}, [split]), rule)

    def test_noughts_behind_on_the_way_on(self):
        # The rows behind the test have further hints, of a read and of another test.
        rule = Rule(given("-1", "p0"), [area("0", "p0", "read", "0", "9")], claims("p0"))
        rows = (("below", 0, 1, 4), ("read", 3, 0, 0, 0), ("below", 3, 0, 4), STOP, STOP)
        told_claims = {4: claims("p0")}

        def papers(*weights):
            lengths = [5, 5, 8, 8]
            return [("sum", 1, [0, 1] + [0] * 3)] + [
                ("never", list(one) + [0] * (length - len(one))) for one, length in zip(weights, lengths)
            ] + [("sum", 1, [0, 0, 0, 0, 1])]
        self.assertEqual([len(want[2]) for want in reference.wants_of(rows, told_claims, rule)], [5, 5, 5, 8, 8, 5])
        same = papers(*[(2, 0)] * 4)
        told = self.surely(Bundle(rows, told_claims, same), rule, (("jump", 4), *rows[1:]))
        self.assertEqual(len(told.papers()), 2)
        # With other weights of one row behind it it stays, and the way to t of the row 2 is the first to go.
        for at in range(4):
            weights = [(2, 0)] * 4
            weights[at] = (2, 1) if at else (1, 0)
            self.assertEqual(takes(Bundle(rows, told_claims, papers(*weights)), rule)[:1], [(2, "t")])

    def test_hints_that_do_not_stand_yet(self):
        # An area whose low is above its high: the facts tell this, and what is read does so behind the test, too.
        rule = Rule(given("p0 - 3"), [area("0", "p0", "read", "1", "0")], claims("r3"))
        rows = (("same", 0, 1, 3), ("read", 3, 5, 0, 0), STOP, STOP)
        self.assertEqual([len(want[2]) for want in reference.wants_of(rows, {3: claims("r3")}, rule)], [5, 3, 3, 5, 4])
        ahead = ("never", [0, 0, 1])
        papers = [("sum", 1, [0] * 5), ahead, ahead, ("never", [0, 0, 1, 0, 0]), ("never", [0, 0, 1, 0])]
        self.surely(Bundle(rows, {3: claims("r3")}, papers), rule, (("jump", 3), *rows[1:]))
        papers[3] = ("never", [0, 0, 0, 1, 1])
        self.stays(Bundle(rows, {3: claims("r3")}, papers), rule)
        # A way on that is never gone by its own test, and then by a later one alone.
        rule = Rule(given("p0 - p1 - 1"), [], claims("-p0 + p1 - 9"))
        rows = (("below", 1, 0, 2), STOP, ("set", 3, 1), ("jump", 4), ("jump", 4))
        told_claims = {2: claims("p0 - p1"), 4: []}
        bundle = Bundle(rows, told_claims, [("sum", 1, [1, 0]), ("never", [1, 1])])
        self.surely(bundle, rule, (("jump", 2), *rows[1:]))
        rows = (("below", 3, 4, 3), ("below", 1, 0, 3), STOP, ("set", 3, 1), ("jump", 5), ("jump", 5))
        told_claims = {3: claims("p0 - p1"), 5: []}
        bundle = Bundle(rows, told_claims, [("sum", 1, [1, 0]), ("sum", 1, [1, 0, 0]), ("never", [1, 0, 1])])
        self.assertEqual(takes(bundle, rule), [(1, "on")])
        self.surely(bundle, rule, (rows[0], ("jump", 3), *rows[2:]))

    def test_a_beginning_ahead_of_a_told_place_stays(self):
        rule = Rule(given("-1"))
        never, longer = ("never", [1, 0]), ("never", [1, 0, 0])
        split = ("split", (1,) + (0,) * 9, ("never", [1, 0, 0, 0]), ("never", [1, 0, 0, 0]))
        # Both the start's row and the one at a told place; their ways on are shown otherwise.
        rows = (("below", 0, 1, 2), ("below", 0, 1, 2), STOP)
        self.stays(Bundle(rows, {1: claims("0"), 2: claims("r0")}, [never, ("sum", 1, [0, 0]), longer, split]), rule)
        # The row 1 is at no told place here.
        told = self.surely(Bundle(rows, {2: claims("r0")}, [never, longer, split]), rule, (("below", 0, 1, 1), STOP))
        self.assertEqual(told.papers(), [never, ("split", split[1], longer, longer)])

    def test_the_least_row_first(self):
        # Both ways to t are never gone, by the hints ahead; the one behind goes then as well.
        rule = Rule(given("-1"), [], claims("p0"))
        rows = (("set", 3, 1), ("below", 0, 1, 5), ("set", 3, 2), ("same", 0, 1, 5), STOP, STOP)
        told_claims = {5: claims("r0")}
        papers = [("never", [1, 0]), ("never", [1, 0, 0, 0]), ("never", [1, 0]), ("never", [1, 0])]
        bundle = Bundle(rows, told_claims, papers)
        self.assertEqual(takes(bundle, rule), [(1, "t"), (3, "t")])
        self.surely(bundle, rule, (rows[0], rows[2], STOP, STOP))

    def test_others_become_such_that_are(self):
        # Behind the row 1 not all wants have the same weights, till the row 2 becomes a jump, with no wants behind it.
        rule = Rule(given("-1", "-1"), [area("0", "p0", "read")], claims("p0"))
        rows = (("set", 3, 1), ("below", 0, 1, 5), ("same", 0, 1, 5), ("read", 3, 0, 0, 0), STOP, STOP)
        told_claims = {5: claims("r0", "r1")}
        one, other = [1, 0, 0, 0], [0, 1, 0, 0]
        # The ways to 5 of the rows 1 and 2, the read, the stop, and the stop at the place 5.
        papers = [("never", one), ("never", other), ("never", [*one, 0, 0]), ("never", [*one, 1, 1]),
                  *[("never", other)] * 3, ("never", [1, 0, 0, 0, 0])]
        self.assertEqual([len(want[2]) for want in reference.wants_of(rows, told_claims, rule)], [4, 4, 6, 6, 4, 4, 4, 5])
        bundle = Bundle(rows, told_claims, papers)
        self.assertEqual(takes(bundle, rule), [(2, "on")])
        # The jump that comes out of the row 2 needs no hints that are lost: its papers are the row 1's then.
        told = self.surely(bundle, rule)
        self.assertEqual(told.rows[2], ("jump", 5))
        papers[3] = ("never", [*one, 0, 0])
        papers[4] = ("never", one)
        bundle = Bundle(rows, told_claims, papers)
        self.assertEqual(takes(bundle, rule), [(2, "t")])
        self.assertEqual(self.surely(bundle, rule).rows[:3], (rows[0], ("below", 0, 1, 4), rows[3]))
        papers[4:7] = [("never", one)] * 3
        bundle = Bundle(rows, told_claims, papers)
        self.assertEqual(takes(bundle, rule), [(1, "on"), (2, "t")])
        self.surely(bundle, rule, (rows[0], ("jump", 5), *rows[2:]))

    def test_a_jump_that_lets_the_row_ahead_become_one(self):
        rule = Rule(given("-1", "-1"), [area("0", "p0", "read")], claims("p0"))
        rows = (("set", 3, 1), ("below", 0, 1, 5), ("same", 0, 1, 5), ("read", 3, 0, 0, 0), STOP, STOP)
        one, other = [1, 0, 0, 0], [0, 1, 0, 0]
        split = ("split", (1,) + (0,) * 10, ("never", [*one, 0]), ("never", [*one, 0]))
        papers = [split, split, *[("never", [*other, 0, 0])] * 2, ("never", one), *[("never", one)] * 2, ("never", [1] + [0] * 4)]
        bundle = Bundle(rows, {5: claims("r0", "r1")}, papers)
        # The row 2 would go to 5 never, and so would all behind it: it goes, then all wants behind the row 1 are alike.
        self.assertEqual(takes(bundle, rule), [(2, "t")])
        self.surely(bundle, rule, (rows[0], ("jump", 4), *rows[3:]))

    def test_claims_at_other_places(self):
        rule = Rule(given("-1"))
        rows = (("set", 3, 1), ("below", 0, 1, 5), ("set", 3, 2), ("jump", 4), ("jump", 5), ("jump", 4))
        told_claims = {3: claims("1"), 4: claims("2"), 5: claims("3")}
        wanted = reference.wants_of(rows, told_claims, rule)
        papers = [("never", [1] + [0] * (len(want[2]) - 1)) for want in wanted]
        told = self.surely(Bundle(rows, told_claims, papers), rule,
                           (rows[0], rows[2], ("jump", 3), ("jump", 4), ("jump", 3)))
        self.assertEqual(told.claims(), {2: claims("1"), 3: claims("2"), 4: claims("3")})

    def test_aparts_of_the_unlike(self):
        # r0 is above 0, or below it, so the row 3's way to t is never gone; its unlike is the one with the number 1.
        def leaf(many):
            return ("sum", 1, [0] * many)
        inner = ("apart", 0, leaf(4), ("apart", 1, leaf(5), leaf(5)))
        apart = ("apart", 1, ("apart", 2, leaf(4), leaf(4)), inner)
        split = ("split", (0, 1) + (0,) * 8, ("apart", 2, leaf(4), ("apart", 1, leaf(5), leaf(5))), ("apart", 0, leaf(4), leaf(4)))
        rows = (("jump", 8), ("set", 4, 0), ("same", 1, 4, 7), ("same", 0, 4, 7), ("same", 2, 4, 7), ("jump", 7),
                ("jump", 7), ("jump", 8), ("jump", 8))
        for text, weights, kept in (("r0 - 1", [1, 0, 0, 1], 0), ("-r0 - 1", [1, 0, 1, 0], 1)):
            rule, told_claims = Rule(), {1: claims(text, "r1"), 7: claims("1", "0"), 8: []}
            papers = [leaf(4)] * 2 + [("never", weights)] * 2 + [leaf(4)] * 2 + [apart, split]
            bundle = Bundle(rows, told_claims, papers)
            self.assertEqual(takes(bundle, rule), [(3, "t")])
            told = self.surely(bundle, rule)
            self.assertEqual((told.rows[3], len(told)), (("same", 2, 4, 6), 8))
            new_apart, new_split = told.papers()[-2:]
            # Of the unlike no apart is left, and the third one's number is less by 1.
            form = (-1, 0, 0, 0, 1 - 2 * kept) + (0,) * 5
            within_it = ("apart", 1, leaf(4), leaf(4)) if kept == 0 else (
                "apart", 0, leaf(4), ("split", form, leaf(5), ("never", [1, 0, 0, 0, 1])))
            self.assertEqual(new_apart, ("split", form, within_it, ("never", [1, 0, 1])))
            self.assertEqual(new_split, ("split", split[1], (
                "apart", 1, leaf(4), ("split", form, leaf(5), ("never", [1, 0, 0, 0, 1]))), ("apart", 0, leaf(4), leaf(4))))
            self.assertLessEqual(size(new_apart), size(apart))
            self.assertLessEqual(size(new_split), size(split))

    def test_an_unlike_of_hints_that_never_hold(self):
        rule = Rule(given("-1"))
        rows = (("set", 3, 1), ("same", 0, 1, 4), ("jump", 4), STOP, STOP)
        told_claims = {4: claims("r0", "1")}
        apart = ("apart", 0, ("never", [1, 0]), ("never", [1, 0]))
        bundle = Bundle(rows, told_claims, [("never", [1, 0, 0])] * 2 + [apart, ("sum", 1, [0])])
        told = self.surely(bundle, rule, (rows[0], ("jump", 3), STOP, STOP))
        self.assertEqual(told.papers(), [("never", [1]), ("sum", 1, [0])])

    def lost_hint(self, own, inner):
        """A below whose way to t is never gone by a weight of its own, and a paper behind it that takes its hint."""
        rule = Rule()
        rows = (("jump", 6), ("below", 0, 1, 5), ("set", 3, 1), ("jump", 4), ("jump", 6), ("jump", 6), ("jump", 6))
        # own times r0 less r1 is 0 or more, so r0 less r1 is.
        told_claims = {1: [(0, 0, 0, 0, own, -own, 0, 0, 0, 0)], 4: claims("r0 - r1", "2*r0 - 2*r1 + 1"), 5: claims("p0"), 6: []}
        papers = [("never", [1, own]), within(inner, ("sum", 1, [0, 1])), within(inner, ("sum", 1, [0, 2]))]
        bundle = Bundle(rows, told_claims, papers)
        told = self.surely(bundle, rule)
        return bundle, told

    def test_a_hint_that_is_lost(self):
        for own in (1, 2, 7):
            bundle, told = self.lost_hint(own, 0)
            self.assertEqual(told.rows, (("jump", 5), ("set", 3, 1), ("jump", 3), ("jump", 5), ("jump", 5), ("jump", 5)))
            for elder, new in zip(bundle.papers()[1:], told.papers()):
                self.assertLessEqual(size(new), 2 * size(elder))
                self.assertEqual(reference.depth_of(new), 0 if own == 1 else 1)

    def test_deep_papers(self):
        for own in (1, 5):
            for inner in (2, 9):
                bundle, told = self.lost_hint(own, inner)
                self.assertEqual(len(told), 6)
                self.assertLessEqual(size(told.papers()[0]), 2 * size(bundle.papers()[1]))
        self.assertEqual(len(self.lost_hint(1, 10)[1]), 6)

    def test_too_deep(self):
        # The hint that is lost is taken by a paper with ten splits within one another: one more would be the eleventh.
        rows = (("jump", 6), ("below", 0, 1, 5), ("set", 3, 1), ("jump", 4), ("jump", 6), ("jump", 6), ("jump", 6))
        told_claims = {1: [(0, 0, 0, 0, 5, -5, 0, 0, 0, 0)], 4: claims("r0 - r1"), 5: claims("p0"), 6: []}
        bundle = Bundle(rows, told_claims, [("never", [1, 5]), within(10, ("sum", 1, [0, 1]))])
        self.assertIsNone(reference.lacking_of(bundle, Rule()))
        self.assertEqual(takes(bundle, Rule()), [(1, "t")])
        self.assertEqual(surely(bundle, Rule()), bundle)

    def test_long_weights(self):
        great = 10 ** 50 - 1
        rule = Rule()
        rows = (("jump", 6), ("below", 0, 1, 5), ("set", 3, 1), ("jump", 4), ("jump", 6), ("jump", 6), ("jump", 6))
        # r0 less r1, less 1, is 0 or more.
        told_claims = {1: claims("r0 - r1 - 1", "0"), 4: [(0, 0, 0, 0, great, -great, 0, 0, 0, 0)], 5: claims("p0"), 6: []}
        for weights in ([1, 0, 1], [1, great, 1], [great, 7, great]):
            bundle = Bundle(rows, told_claims, [("never", weights), ("sum", 1, [0, 0, great])])
            told = self.surely(bundle, rule)
            self.assertEqual(len(told), 6)
            self.assertLess(reference.greatest_of(told.papers()), 10 ** 51)
            self.assertLessEqual(size(told.papers()[0]), 2)

    def test_a_hint_of_the_way_to_t_that_is_lost(self):
        # The way on is never gone, as own times r1 less r0 is at least own: what the test told on the way to t is lost.
        rule = Rule()
        for own in (1, 3):
            rows = (("jump", 5), ("below", 0, 1, 4), ("set", 3, 1), ("jump", 4), ("jump", 5), ("jump", 5))
            told_claims = {1: [(-own, 0, 0, 0, -own, own, 0, 0, 0, 0)], 4: claims("r1 - r0 - 1", "r1 - r0"), 5: []}
            never = ("never", [1, own])
            bundle = Bundle(rows, told_claims, [("sum", 1, [0, 1]), ("sum", 1, [0, 1]), never, never])
            told = self.surely(bundle, rule, (rows[0], ("jump", 4), *rows[2:]))
            self.assertEqual([size(paper) for paper in told.papers()], [1, 1] if own == 1 else [2, 2])

    def test_too_deep_on_the_way_to_t(self):
        rows = (("jump", 5), ("below", 0, 1, 4), ("set", 3, 1), ("jump", 4), ("jump", 5), ("jump", 5))
        for own in (1, 3):
            told_claims = {1: [(-own, 0, 0, 0, -own, own, 0, 0, 0, 0)], 4: claims("r1 - r0 - 1"), 5: []}
            for depth in (9, 10):
                bundle = Bundle(rows, told_claims, [within(depth, ("sum", 1, [0, 1])), ("never", [1, own])])
                self.assertIsNone(reference.lacking_of(bundle, Rule()))
                self.assertEqual(takes(bundle, Rule()), [(1, "on")])
                told = surely(bundle, Rule())
                self.assertEqual(told == bundle, own == 3 and depth == 10)
                self.assertIsNone(reference.lacking_of(told, Rule()))

    def test_ahead_of_a_told_place(self):
        # The row 1 is no beginning, so it goes, though the next row is a told place.
        rule = Rule(given("-1"))
        rows = (("set", 3, 1), ("below", 0, 1, 2), ("set", 3, 2), STOP)
        split = ("split", (1,) + (0,) * 9, ("never", [1, 0, 0]), ("never", [1, 0, 0]))
        told = self.surely(Bundle(rows, {2: claims("r0")}, [("never", [1, 0]), split]), rule, (rows[0], rows[2], STOP))
        self.assertEqual(told.claims(), {1: claims("r0")})

    def test_forms_lose_the_unknowns_of_reads_behind(self):
        rule = Rule(given("-1", "p0"), [area("0", "p0", "read")], claims("p0"))
        rows = (("set", 3, 0), ("read", 4, 3, 0, 0), ("below", 0, 1, 6), ("read", 5, 3, 0, 0), ("jump", 6), STOP, STOP)
        told_claims = {6: claims("p0")}
        wanted = reference.wants_of(rows, told_claims, rule)
        self.assertEqual([(want[0], len(want[2]), len(want[4])) for want in wanted],
                         [(1, 3, 12), (1, 3, 12), (2, 4, 12), (3, 4, 12), (3, 4, 12), (4, 4, 12), (6, 4, 10)])
        form = (5, 1, 2, 3, 4, 5, 6, 7, 8, 9, 10, 11)
        split = ("split", form, ("never", [1, 0, 0, 0]), ("never", [1, 0, 0, 0]))
        way = ("split", form, ("sum", 1, [0, 1, 0, 0, 0]), ("sum", 1, [0, 1, 0, 0, 0]))
        never = ("never", [1, 0, 0, 0])
        bundle = Bundle(rows, told_claims, [split, ("never", [1, 0, 0]), way, never, never, never, ("sum", 1, [0, 1, 0, 0])])
        told = self.surely(bundle, rule, (*rows[:2], ("jump", 6), *rows[3:]))
        self.assertEqual([told.papers()[0][1], told.papers()[2][1]], [form[:11], form[:11]])

    def test_refusals(self):
        self.refused_as_others_are(surely)

    def test_by_chance(self):
        chance = random.Random(252)
        taken = 0
        for at in range(200):
            told = by_chance.rows_by_chance(chance, 0.3, 12) if at % 3 else by_chance.chain_by_chance(chance)
            if told is None:
                continue
            rows, told_claims, _, rule, wanted = told
            bundle = Bundle(rows, told_claims, by_chance.Papers(chance, 2, 0.95).of(wanted))
            first = takes(bundle, rule)
            told = self.surely(bundle, rule)
            if first and len([row for row in rows if row[0] in ("below", "same")]) - 1 == len(
                    [row for row in told.rows if row[0] in ("below", "same")]):
                self.assertEqual(told.rows, without(rows, *first[0]))
            taken += bool(first)
        self.assertGreater(taken, 20)


if __name__ == "__main__":
    import unittest
    unittest.main()
