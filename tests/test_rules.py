"""Point 9: what a rule is made of, its facts, and when two rules are equal."""

import unittest

from paperrows.errors import NoRule
from paperrows.rules import Rule

P0 = (0, 1, 0, 0)
P1 = (0, 0, 1, 0)
P2 = (0, 0, 0, 1)
END = (0, 0, 0, 0, 1, 2, 3, 4, 5, 6)
READ = (P0, P1, "read", None, None)
BOTH = (P1, P2, "both", (-5, 0, 0, 0), (5, 1, 0, 0))
GREAT = (10 ** 60 - 1, -10 ** 60 + 1, 0, 1)

NO_LISTS = (None, True, False, 0, 7, "", "read", {}, {0: P0}, Rule())
NO_FORMS = (None, True, 0, "", (), [], [0, 1, 0, 0], (0, 1, 0), (0, 1, 0, 0, 0), (0, True, 0, 0), (0, "1", 0, 0), END)
NO_ENDS = (None, True, 0, "", (), list(END), END[:9], END + (0,), END[:9] + (False,), END[:9] + (None,), P0)
NO_AREAS = (
    None, True, 0, "", (), [], list(READ), READ[:4], READ + (None,), P0, END,
    (P0, P1, "write", None, None), (P0, P1, "", None, None), (P0, P1, None, None, None), (P0, P1, True, None, None),
    (P0, P1, "Read", None, None), (P0, P1, ["read"], None, None), (P0, P1, ("read",), None, None),
    (P0, P1, "both", P0, None), (P0, P1, "both", None, P0), (P0, P1, "both", P0, False), (P0, P1, "both", (), ()),
    (P0, P1, Rule(), None, None),
)


class ValuesTest(unittest.TestCase):

    def test_what_is_left_out_is_empty(self):
        rule = Rule()
        self.assertEqual((rule.given, rule.areas, rule.ends), ((), (), ()))
        rule = Rule(areas=[READ])
        self.assertEqual((rule.given, rule.areas, rule.ends), ((), (READ,), ()))
        rule = Rule([P0])
        self.assertEqual((rule.given, rule.areas, rule.ends), ((P0,), (), ()))
        rule = Rule(ends=(END,))
        self.assertEqual((rule.given, rule.areas, rule.ends), ((), (), (END,)))

    def test_none_some_and_most_as_lists_and_tuples(self):
        for kind in (list, tuple):
            for many, areas in ((0, ()), (2, (READ, BOTH)), (6, (READ, BOTH, READ))):
                rule = Rule(kind([P0] * many), kind(areas), kind([END] * many))
                self.assertEqual(rule.given, (P0,) * many)
                self.assertEqual(rule.areas, tuple(areas))
                self.assertEqual(rule.ends, (END,) * many)
                for told in (rule.given, rule.areas, rule.ends):
                    self.assertIs(type(told), tuple)

    def test_numbers_of_sixty_figures(self):
        rule = Rule([GREAT], [(GREAT, GREAT, "both", GREAT, GREAT)], [(10 ** 60 - 1,) * 10])
        self.assertEqual(rule.given, (GREAT,))

    def test_lists_changed_afterwards(self):
        given, areas, ends = [P0], [READ], [END]
        rule = Rule(given, areas, ends)
        given.append(P1)
        areas.clear()
        ends[0] = None
        self.assertEqual((rule.given, rule.areas, rule.ends), ((P0,), (READ,), (END,)))
        self.assertEqual(given, [P0, P1])


class RefusedTest(unittest.TestCase):

    def refused(self, **parts):
        with self.subTest(parts):
            with self.assertRaises(NoRule):
                Rule(**parts)

    def test_one_more(self):
        self.refused(given=[P0] * 7)
        self.refused(given=(P0,) * 7)
        self.refused(areas=[READ] * 4)
        self.refused(areas=(READ,) * 4)
        self.refused(ends=[END] * 7)
        self.refused(ends=(END,) * 7)

    def test_no_lists(self):
        for things in NO_LISTS:
            self.refused(given=things)
            self.refused(areas=things)
            self.refused(ends=things)

    def test_given_and_ends(self):
        for form in NO_FORMS:
            self.refused(given=[form])
            self.refused(given=(P0, form))
        for form in NO_ENDS:
            self.refused(ends=[form])
            self.refused(ends=(END, form))

    def test_areas(self):
        for area in NO_AREAS:
            self.refused(areas=[area])
            self.refused(areas=(BOTH, area))

    def test_forms_of_areas(self):
        for form in NO_FORMS:
            self.refused(areas=[(form, P1, "both", P0, P1)])
            self.refused(areas=[(P0, form, "both", P0, P1)])
            self.refused(areas=[(P0, P1, "both", form, P1)])
            self.refused(areas=[(P0, P1, "both", P0, form)])

    def test_low_and_high_of_both_rights(self):
        for rights in ("read", "both"):
            for low, high in ((None, None), (P0, P1)):
                self.assertEqual(Rule(areas=[(P0, P1, rights, low, high)]).areas, ((P0, P1, rights, low, high),))


class FactsTest(unittest.TestCase):

    def test_without_areas(self):
        self.assertEqual(Rule().facts(), [])
        self.assertEqual(Rule([P1, P0], ends=[END]).facts(), [P1, P0])

    def test_one_area(self):
        self.assertEqual(Rule(areas=[READ]).facts(), [(0, -1, 1, 0)])
        self.assertEqual(Rule(areas=[BOTH]).facts(), [(0, 0, -1, 1), (10, 1, 0, 0)])

    def test_all_in_their_order(self):
        areas = [
            ((1, 0, 0, 0), (12, 0, 0, 0), "read", (1, 1, 0, 0), (1, 0, 1, 0)),
            ((123, 0, 0, 0), (1234, 0, 0, 0), "both", None, None),
            ((12345, 0, 0, 0), (123456, 1, 2, 3), "read", (7, 0, 0, 0), (9, 0, 0, 4)),
        ]
        expected = [
            P2, P0,
            (11, 0, 0, 0),
            (111, 0, 0, 0),
            (1111, 0, 0, 0),
            (11111, 0, 0, 0),
            (111111, 1, 2, 3),
            (0, -1, 1, 0),
            (2, 0, 0, 4),
        ]
        self.assertEqual(Rule([P2, P0], areas).facts(), expected)

    def test_the_list_is_new_each_time(self):
        rule = Rule([P0], [BOTH])
        told = rule.facts()
        told.append(P2)
        told[0] = None
        self.assertEqual(rule.facts(), [P0, (0, 0, -1, 1), (10, 1, 0, 0)])
        self.assertEqual(rule.given, (P0,))


class EqualTest(unittest.TestCase):

    def test_equal(self):
        one = Rule([P0], [READ], [END])
        other = Rule((P0,), (READ,), (END,))
        self.assertTrue(one == other)
        self.assertTrue(other == one)
        self.assertFalse(one != other)
        self.assertTrue(one == one)
        self.assertTrue(Rule() == Rule([], [], []))

    def test_each_part_counts(self):
        one = Rule([P0], [READ], [END])
        for other in (Rule([P1], [READ], [END]), Rule([P0], [BOTH], [END]), Rule([P0], [READ], [END, END]), Rule()):
            self.assertFalse(one == other)
            self.assertFalse(other == one)
            self.assertTrue(one != other)

    def test_the_order_counts(self):
        self.assertNotEqual(Rule([P0, P1]), Rule([P1, P0]))

    def test_nothing_else_is_equal(self):
        for thing in (None, True, False, 0, "", (), [], {}, ((), (), ()), [(), (), ()], object()):
            with self.subTest(thing=thing):
                self.assertIs(Rule() == thing, False)
                self.assertIs(thing == Rule(), False)
                self.assertIs(Rule() != thing, True)
                self.assertIs(thing != Rule(), True)


if __name__ == "__main__":
    unittest.main()
