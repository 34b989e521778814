"""Points 12 to 18 where forms are put into single numbers: great numbers, and looks at all by another, slower way."""

import random
import unittest

import chance as by_chance
import reference
from paperrows.bundles import Bundle
from paperrows.fields import Fields, TooGreat, bits_of
from paperrows.finder import found, shown
from paperrows.looker import lacking, lets_by
from paperrows.papers import shows
from paperrows.rules import Rule
from paperrows.texts import bundle_text, read_bundle
from paperrows.wants import wants

STOP = ("stop",)
GREAT = 10 ** 500 - 1


def claim(constant, **numbers):
    names = ("p0", "p1", "p2", "r0", "r1", "r2", "r3", "r4", "r5")
    return (constant, *[numbers.get(name, 0) for name in names])


class FieldsTest(unittest.TestCase):

    def test_forms_there_and_back(self):
        chance = random.Random(1)
        for most in (0, 1, 2, 9, 10 ** 6, 10 ** 60, GREAT):
            for length in (1, 2, 10, 33):
                fields = Fields(bits_of(most), length)
                for form in [(most,) * length, (-most,) * length, (0,) * length,
                             tuple(chance.randint(-most, most) for _ in range(length))]:
                    self.assertEqual(fields.unpacked(fields.packed(form), length), form)
                    places = [0, *[at for at in range(1, length) if form[at] != 0]]
                    self.assertEqual(fields.places_used([fields.packed(form)]), places)
                    self.assertEqual(fields.numbers_at(fields.packed(form), places), tuple(form[at] for at in places))
                    self.assertEqual(fields.unpacked(-1 - fields.packed(form), length),
                                     (-1 - form[0], *[-number for number in form[1:]]))

    def test_what_is_left(self):
        fields = Fields(bits_of(10), 3)
        hints = [fields.packed(form) for form in ((0, 1, 0), (2, 0, -1))]
        self.assertEqual(fields.left(1, fields.packed((7, 2, -3)), [2, 3], hints), 1)
        self.assertIsNone(fields.left(1, fields.packed((7, 2, -3)), [2, 2], hints))
        self.assertIsNone(fields.left(1, fields.packed((7, 0, 1)), [0, 0], hints))
        self.assertIsNone(fields.left(1, fields.packed((7, 0, -1)), [0, 0], hints))
        self.assertEqual(fields.left(0, fields.packed((7, 2, -3)), [0, 0], hints), 0)

    def test_too_great(self):
        fields = Fields(bits_of(10), 2)
        hint = fields.packed((-10, 10))
        most = 2 ** 40 - 2
        self.assertEqual(fields.left(1, hint, [1], [hint]), 0)
        self.assertIsNone(fields.left(1, hint, [most], [hint]))
        self.assertEqual(fields.left(0, hint, [most // 2, most // 2], [hint, -hint]), 0)
        for k, weights in ((1, [most + 1]), (most + 1, [1]), (1, [10 ** 500])):
            with self.assertRaises(TooGreat):
                fields.left(k, hint, weights, [hint])
        self.assertEqual(fields.further((10, -10)), (fields.packed((10, -10)), fields.packed((-11, 10))))
        for number in (2 ** 5, -2 ** 5, GREAT):
            with self.assertRaises(TooGreat):
                fields.further((0, number))


class GreatPapersTest(unittest.TestCase):
    """Papers whose numbers don't fit the fields of the rows' forms."""

    RULE = Rule([(0, 1, 0, 0), (-1, 0, 1, 0)], [], [claim(0, r0=1), claim(-1, p1=1)])
    ROWS = (("set", 3, 1), STOP)

    def looked(self, papers, told):
        bundle = Bundle(self.ROWS, {}, papers)
        self.assertEqual(lacking(bundle, self.RULE), told)
        self.assertEqual(reference.lacking_of(bundle, self.RULE), told)
        self.assertIs(lets_by(bundle, self.RULE), told is None)

    def test_great_weights(self):
        right = ("sum", 1, [0, 1])
        for often in (1, 2, 2 ** 39, 2 ** 40 - 1, 2 ** 40, 10 ** 60, GREAT):
            self.looked([("sum", often, [often, 0]), right], None)
            self.looked([("sum", often, [0, often]), right], (1, "ends", 0))
            self.looked([("sum", often, [often - 1, 0]), right], (1, "ends", 0))
            self.looked([("sum", often, [often + 1, 0]), right], (1, "ends", 0))
            self.looked([right, ("sum", often, [0, often])], (1, "ends", 0))
            self.looked([("sum", 1, [1, 0]), ("never", [often, often])], (1, "ends", 1))
            self.looked([("sum", 1, [1, 0]), ("never", [0, -often])], (1, "ends", 1))

    def test_great_splits(self):
        right, length = ("sum", 1, [0, 1]), 10
        for number in (1, 2 ** 5, 2 ** 20, 10 ** 60, GREAT):
            for form in ((number,) + (0,) * 9, (-number,) + (0,) * 9, (0, number) + (0,) * 8, (0,) * 9 + (-number,)):
                split = ("split", form, ("sum", 1, [1, 0, 0]), ("sum", 1, [1, 0, 0]))
                self.looked([split, right], None)
                self.looked([("split", form[1:], *split[2:]), right], (1, "ends", 0))
            # p0 is split where it is beyond the number, and further great weights stand within.
            split = ("split", (-number, 1) + (0,) * (length - 2), ("sum", number, [0, 0, number]),
                     ("sum", number, [number, 0, 0]))
            self.looked([split, right], None)
            wrong = ("split", (-number, -1) + (0,) * (length - 2), ("never", [number, 0, number]), split[3])
            self.looked([wrong, right], None)

    def test_a_greater_claim_needs_greater_fields(self):
        for number in (10 ** 6, 10 ** 60, GREAT):
            claims = {1: [claim(number, r3=number), claim(0, r3=-number, p0=number)]}
            rows = (("copy", 3, 0), ("jump", 1))
            bundle = shown(rows, claims, self.RULE)
            self.assertIsNone(lacking(bundle, self.RULE))
            self.assertIsNone(reference.lacking_of(bundle, self.RULE))
            papers = bundle.papers()
            papers[0] = ("sum", 1, [number - 1, 0])
            self.assertEqual(lacking(Bundle(rows, claims, papers), self.RULE), (0, "claim", 0))

    def test_folds_that_let_numbers_grow(self):
        rows = tuple(("fold", 0, 0, 10 ** 6) for _ in range(40)) + (("plus", 0, 0, 0),) * 30 + (STOP,)
        bundle = shown(rows, {}, self.RULE)
        self.assertEqual(wants(rows, {}, self.RULE)[0][4], (0, 10 ** 240 * 2 ** 30) + (0,) * 8)
        self.assertIsNone(lacking(bundle, self.RULE))
        worse = Bundle(rows, {}, [("sum", 1, [10 ** 240 * 2 ** 30 + 1, 0]), bundle.papers()[1]])
        self.assertEqual(lacking(worse, self.RULE), (70, "ends", 0))

    def test_numbers_of_rows_with_weights_that_just_fit(self):
        # What each row lets a goal come to, taken so often as the fields just let it be.
        million, often = 10 ** 6, 2 ** 39
        rule = Rule([], [((0, 0, 0, 0), (10 ** 7, 0, 0, 0), "both", (0, 0, 0, 0), (10 ** 7, 0, 0, 0))], [claim(0, r3=1)])
        for rows in (
            (("set", 3, million), STOP), (("set", 3, 7), ("more", 3, 3, million), STOP),
            (("set", 3, 9), ("fold", 3, 3, million), STOP), (("set", 3, 5),) + (("plus", 3, 3, 3),) * 200 + (STOP,),
            (("set", 3, 5),) + (("minus", 3, 3, 4),) * 20 + (("fold", 3, 3, million),) * 9 + (STOP,),
            (("set", 3, 9), ("read", 4, 5, million, 0), ("write", 5, million, 3, 0), STOP),
        ):
            papers = [("sum", often, [0] * len(want[2])) for want in reference.wants_of(rows, {}, rule)]
            self.assertIsNone(reference.lacking_of(Bundle(rows, {}, papers), rule))
            self.assertIsNone(lacking(Bundle(rows, {}, papers), rule))
            self.assertEqual(wants(rows, {}, rule), reference.wants_of(rows, {}, rule))

    def test_many_reads_in_a_trunk(self):
        rule = Rule([(0, 1, 0, 0)], [((0, 0, 0, 0), (5, 1, 0, 0), "both", (0, 0, 0, 0), (9, 0, 0, 0))])
        rows = (("read", 3, 4, 0, 0), ("write", 4, 1, 3, 0)) * 140 + (STOP,)
        told = wants(rows, {}, rule)
        self.assertEqual(told, reference.wants_of(rows, {}, rule))
        bundle = shown(rows, {}, rule)
        self.assertIsNone(lacking(bundle, rule))
        self.assertEqual(read_bundle(bundle_text(bundle)), bundle)


class AnotherWayTest(unittest.TestCase):

    def test_wants_and_looks(self):
        chance = random.Random(2)
        seen = {}
        for _ in range(120):
            told = by_chance.rows_by_chance(chance, chance.choice((0.2, 0.5)), 12) or by_chance.chain_by_chance(chance)
            if told is None:
                continue
            rows, claims, papers, rule, expected = told
            self.assertEqual(expected, reference.wants_of(rows, claims, rule))
            self.assertEqual(shown(rows, claims, rule).papers(), papers)
            for _ in range(4):
                others = self.others(chance, by_chance.Papers(chance, 3, 0.3).of(expected), expected)
                bundle = Bundle(rows, claims, others)
                lack = reference.lacking_of(bundle, rule)
                self.assertEqual(lacking(bundle, rule), lack)
                seen[lack and lack[1]] = seen.get(lack and lack[1], 0) + 1
                self.each_shows(others, expected)
        self.assertGreater(seen[None], 50, seen)
        self.assertGreater(min(seen.get(sort, 0) for sort in ("claim", "more")), 10, seen)

    def each_shows(self, papers, expected):
        for paper, (_, _, hints, unlikes, goal) in zip(papers, expected):
            self.assertIs(shows(paper, hints, unlikes, goal), reference.shown_by(paper, hints, unlikes, goal))

    def others(self, chance, papers, expected):
        """Papers of which some are spoilt, or one is left out, or one more is there."""
        if not papers or chance.random() < 0.5:
            return papers + papers[:1] if chance.random() < 0.3 else papers
        at = chance.randrange(len(papers))
        return papers[:at] + [self.spoilt(chance, papers[at], expected[at])] + papers[at + 1:]

    def spoilt(self, chance, paper, want):
        if paper[0] in ("split", "apart"):
            if chance.random() < 0.2:
                return (paper[0], 7, *paper[2:]) if paper[0] == "apart" else ("split", want[4][:-1], *paper[2:])
            return (*paper[:2], paper[3], paper[2]) if chance.random() < 0.3 else (
                *paper[:2], self.spoilt(chance, paper[2], want), paper[3])
        weights = list(paper[-1])
        if weights and chance.random() < 0.8:
            weights[chance.randrange(len(weights))] += chance.choice((1, 2, 10 ** 30))
        else:
            weights.append(0)
        return (*paper[:-1], weights)

    def test_places_of_several_forms(self):
        fields = Fields(bits_of(9), 5)
        forms = [(1, 0, -2, 0, 0), (0, 0, 2, 0, 0), (0, 0, 0, 0, -9)]
        self.assertEqual(fields.places_used([fields.packed(form) for form in forms]), [0, 2, 4])
        self.assertEqual(fields.places_used([]), [0])
        self.assertEqual(fields.numbers_at(fields.packed(forms[0]), [0, 2, 4]), (1, -2, 0))

    def test_found_at_once_or_by_moves(self):
        # The contrary comes to 0 first, or a hint is further below; then one hint is enough, or there are more moves.
        hints = [(0, 1, 0, 0), (-2, 0, 1, 0), (1, 0, 0, 1)]
        for goal, paper in (
            ((0, 1, 0, 0), ("sum", 1, [1, 0, 0])),
            ((5, 1, 0, 0), ("sum", 1, [1, 0, 0])),
            ((-2, 1, 1, 0), ("sum", 1, [1, 1, 0])),
            ((0, 2, 0, 0), ("sum", 1, [2, 0, 0])),
            ((0, 3, 0, 0), ("sum", 1, [3, 0, 0])),
            ((-1, 1, 1, 1), ("sum", 1, [1, 1, 1])),
            ((-5, 0, 3, 1), ("sum", 1, [0, 3, 1])),
            ((0, 0, 0, 0), ("sum", 1, [0, 0, 0])),
        ):
            self.assertEqual(found(hints, [], goal), paper)
            self.assertEqual(found([(at, *[0] * 3) for at in (0, 3)] + hints, [], goal), (*paper[:2], [0, 0, *paper[2]]))
            self.assertIsNone(found(hints, [], (goal[0] - 9, *goal[1:])))
        self.assertEqual(found([(0, 2)], [], (0, 1)), ("sum", 2, [1]))
        self.assertEqual(found([(0, 4)], [], (0, 6)), ("sum", 2, [3]))
        self.assertEqual(found([(0, -2)], [], (0, -1)), ("sum", 2, [1]))
        self.assertEqual(found([(0, 1), (-5, 1), (-5, 1), (3, 1)], [], (-5, 1)), ("sum", 1, [0, 1, 0, 0]))
        self.assertEqual(found([(0, 1), (4, -1), (-5, 1)], [], (-9, 1)), ("never", [0, 1, 1]))
        self.assertEqual(found([(0, 1), (-3, 0)], [], (0, 1)), ("never", [0, 1]))
        self.assertEqual(found([(-3, 0), (1, 1)], [], (1, 1)), ("never", [1, 0]))
        self.assertEqual(found([(-1, 0)], [], (0, 5)), ("never", [1]))


if __name__ == "__main__":
    unittest.main()
