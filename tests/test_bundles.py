"""Point 16, what it says of bundles: what they are made of, when two are equal, and their size."""

import copy
import unittest

from paperrows.bundles import Bundle
from paperrows.errors import NoClaims, NoPapers, NoRows
from paperrows.rules import Rule

STOP = ("stop",)
ROWS = (("jump", 1), STOP)
FORM = (1, 0, 0, 0, 0, 0, 0, 0, 0, -1)
OTHER_FORM = (2, 0, 0, 0, 0, 0, 0, 0, 0, -1)
SUM = ("sum", 1, [0, 2])
NEVER = ("never", [1, 1])
SPLIT = ("split", (0, 1), SUM, ("apart", 0, NEVER, SUM))


def claims():
    return {1: [FORM]}


class MadeTest(unittest.TestCase):

    def test_papers_as_a_list_as_a_tuple_and_left_out(self):
        for papers in ([SUM, NEVER], (SUM, NEVER)):
            bundle = Bundle(ROWS, claims(), papers)
            self.assertEqual(bundle.papers(), [SUM, NEVER])
            self.assertIs(type(bundle.papers()), list)
        for bundle in (Bundle(ROWS, claims()), Bundle(ROWS, claims(), ()), Bundle(ROWS, claims(), [])):
            self.assertEqual(bundle.papers(), [])
        self.assertEqual(Bundle(papers=[SUM], claims={}, rows=(STOP,)).papers(), [SUM])

    def test_values(self):
        bundle = Bundle(ROWS, claims(), [SUM])
        self.assertEqual(bundle.rows, ROWS)
        self.assertIs(type(bundle.rows), tuple)
        self.assertEqual(bundle.claims(), {1: [FORM]})
        self.assertIs(type(bundle.claims()), dict)

    def test_any_things_may_be_papers(self):
        things = [None, True, 5, "", "x\n", (), [], {}, [[1], {(1, "a", None, True): [2]}], Rule(), Bundle((STOP,), {}), SPLIT]
        self.assertEqual(Bundle(ROWS, claims(), things).papers(), things)
        told = Bundle(ROWS, claims(), [True, [True], 1]).papers()
        self.assertEqual([type(told[0]), type(told[1][0]), type(told[2])], [bool, bool, int])

    def test_len(self):
        self.assertEqual(len(Bundle((STOP,), {})), 1)
        self.assertEqual(len(Bundle(ROWS, claims(), [SUM] * 5)), 2)
        self.assertEqual(len(Bundle((STOP,) * 300, {})), 300)

    def test_claims_of_five_hundred_figures(self):
        form = (10 ** 500 - 1,) * 10
        self.assertEqual(Bundle(ROWS, {1: [form]}, [("sum", 10 ** 500 - 1, [])]).claims(), {1: [form]})


class RefusedTest(unittest.TestCase):

    def test_rows(self):
        for rows, at in ((None, 0), ((), 0), ([STOP], 0), (True, 0), ((STOP, ("set", 6, 0)), 1), ((STOP, ("set", 1, 0)), 1)):
            for further in (({}, ()), (None, None), ({}, "x")):
                with self.assertRaises(NoRows) as told:
                    Bundle(rows, *further)
                self.assertEqual(told.exception.at, at)

    def test_claims(self):
        for wrong, at in ((None, None), ([], None), ({}, 1), ({1: ()}, 1), ({1: [], 2: []}, 2), ({True: []}, None),
                          ({1: [FORM[:9]]}, 1), ({"1": []}, None), ({1: [], 0: []}, 0)):
            for papers in ((), None, [SUM]):
                with self.assertRaises(NoClaims) as told:
                    Bundle(ROWS, wrong, papers)
                self.assertEqual(told.exception.at, at)

    def test_papers(self):
        for papers in (None, True, 0, "", "sum", {}, {0: SUM}, Rule(), Bundle((STOP,), {})):
            with self.subTest(papers=papers):
                with self.assertRaises(NoPapers):
                    Bundle(ROWS, claims(), papers)


class NothingIsKeptTest(unittest.TestCase):

    def made(self):
        parts = {1: [FORM]}, [("sum", 1, [0, 2]), SPLIT, {"a": [1]}, [[3], (4, [5], {6: [7]})]]
        parts = copy.deepcopy(parts)
        return Bundle(ROWS, *parts), *parts

    def test_what_is_done_to_what_was_handed_in(self):
        bundle, handed_claims, papers = self.made()
        held = copy.deepcopy((bundle.claims(), bundle.papers()))
        handed_claims[1].append(FORM)
        handed_claims[5] = []
        papers[0][2][0] = 9
        papers[1][2][2].clear()
        papers[2]["a"][0] = 9
        papers[2]["b"] = 9
        papers[3][0].append(9)
        papers[3][1][1].append(9)
        papers[3][1][2][6].append(9)
        papers.append(9)
        self.assertEqual((bundle.claims(), bundle.papers()), held)

    def test_what_is_done_to_what_was_told(self):
        bundle, _, _ = self.made()
        held = copy.deepcopy((bundle.claims(), bundle.papers()))
        told = bundle.claims()
        told[1].append(FORM)
        told[5] = []
        told = bundle.papers()
        told[0][2][0] = 9
        told[1][2][2].clear()
        told[2]["a"][0] = 9
        told[3][1][1].append(9)
        told[3][1][2][6].append(9)
        told.append(9)
        self.assertEqual((bundle.claims(), bundle.papers()), held)

    def test_what_was_handed_in_stays(self):
        bundle, handed_claims, papers = self.made()
        held = copy.deepcopy((handed_claims, papers))
        bundle.claims().clear()
        bundle.papers().clear()
        with self.assertRaises(NoPapers):
            bundle.size()
        self.assertEqual((handed_claims, papers), held)

    def test_two_bundles_know_nothing_of_one_another(self):
        papers, shared = [SUM], {1: [FORM]}
        one, other = Bundle(ROWS, shared, papers), Bundle(ROWS, shared, papers)
        one.papers()[0][2].append(1)
        one.claims()[1].append(FORM)
        self.assertEqual(one, other)
        papers.append(NEVER)
        self.assertEqual(one, other)


class EqualTest(unittest.TestCase):

    def equal(self, one, other, told):
        self.assertIs(one == other, told)
        self.assertIs(other == one, told)
        self.assertIs(one != other, not told)
        self.assertIs(other != one, not told)

    def test_equal(self):
        one = Bundle(ROWS, claims(), [SUM, SPLIT])
        self.equal(one, one, True)
        self.equal(one, Bundle(ROWS, claims(), [SUM, SPLIT]), True)
        self.equal(one, Bundle(ROWS, claims(), (SUM, SPLIT)), True)
        self.equal(Bundle(ROWS, claims(), ()), Bundle(ROWS, claims(), []), True)
        three = (("jump", 1), ("jump", 2), STOP)
        self.equal(Bundle(three, {1: [], 2: [FORM]}), Bundle(three, {2: [FORM], 1: []}), True)

    def test_true_in_the_place_of_one(self):
        self.equal(Bundle(ROWS, claims(), [("sum", 1, [0])]), Bundle(ROWS, claims(), [("sum", True, [False])]), True)
        self.equal(Bundle(ROWS, claims(), [True]), Bundle(ROWS, claims(), (1,)), True)

    def test_each_part_counts(self):
        one = Bundle(ROWS, claims(), [SUM])
        self.equal(one, Bundle((("jump", 1), ("jump", 1)), claims(), [SUM]), False)
        self.equal(one, Bundle(ROWS, {1: [OTHER_FORM]}, [SUM]), False)
        self.equal(one, Bundle(ROWS, {1: []}, [SUM]), False)
        self.equal(one, Bundle(ROWS, claims(), [NEVER]), False)
        self.equal(one, Bundle(ROWS, claims(), [SUM, SUM]), False)
        self.equal(one, Bundle(ROWS, claims()), False)
        self.equal(one, Bundle(ROWS, claims(), [list(SUM)]), False)
        self.equal(Bundle((STOP, STOP), {}), Bundle((STOP, STOP), {1: []}), False)
        self.equal(Bundle(ROWS, claims(), [SUM, NEVER]), Bundle(ROWS, claims(), [NEVER, SUM]), False)

    def test_nothing_else_is_equal(self):
        one = Bundle(ROWS, claims(), [SUM])
        for thing in (None, True, 0, 2, "", (), [], {}, (ROWS, claims(), [SUM]), [ROWS, claims(), [SUM]], ROWS, Rule(), object()):
            self.equal(one, thing, False)


class SizeTest(unittest.TestCase):

    def size(self, *papers):
        return Bundle(ROWS, claims(), papers).size()

    def test_sizes(self):
        self.assertEqual(self.size(), 0)
        self.assertEqual(self.size(SUM), 1)
        self.assertEqual(self.size(SUM, NEVER, SUM), 3)
        self.assertEqual(self.size(SPLIT), 3)
        self.assertEqual(self.size(SUM, SPLIT, NEVER), 5)

    def test_one_that_is_none(self):
        for wrong in (None, True, (), ("sum", 0, []), ("sum", True, []), ("split", (0, 1), SUM, None), list(SUM)):
            for papers in ((wrong,), (SUM, wrong), (wrong, SUM), (SUM, SPLIT, wrong, NEVER)):
                with self.assertRaises(NoPapers):
                    self.size(*papers)


if __name__ == "__main__":
    unittest.main()
