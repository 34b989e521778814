"""Point 20: deeds, what are none, and how they are run."""

import copy
import unittest

from paperrows.bundles import Bundle
from paperrows.deeds import deeds_run, look_deeds
from paperrows.errors import NoDeeds, NoNumber, NoRule, NoStart
from paperrows.forms import read_form
from paperrows.rules import Rule

MOST = 1000000
KEEP = (1, 0, 0, 0, 0, 0, 0, 0)


def total(text):
    """A sum by its text."""
    return read_form(text, names=["a", "b", "c", "d"])


def let(name, text):
    return ("let", name, total(text))


def below(text):
    return ("below", total(text))


def same(text):
    return ("same", total(text))


def if_so(test, deeds, others=(), keeps=(), behind=()):
    return ("if", test, list(keeps), tuple(deeds), tuple(others), list(behind))


def while_so(test, deeds, keeps=()):
    return ("while", test, list(keeps), tuple(deeds))


def constant(number):
    return (number, 0, 0, 0)


# Area 0 may be written with worths from p1 to p2, area 1 with any, area 2 may only be read.
RULE = Rule(areas=[
    (constant(10), constant(13), "both", (0, 0, 1, 0), (0, 0, 0, 1)),
    (constant(20), (22, 1, 0, 0), "both", None, None),
    (constant(30), constant(33), "read", None, None),
])
P = (2, -4, 5)
LET = let("a", "b")
READ = ("read", "a", 0, total("b"))
WRITE = ("write", 0, total("a"), "b")
IF = if_so(below("a"), [LET], [LET])
WHILE = while_so(below("a"), [LET])


def nested(many, word="if"):
    """A deed with so many within one another, itself counted."""
    told = LET
    for _ in range(many - 1):
        told = if_so(below("a"), [told]) if word == "if" else while_so(below("a"), [told])
    return told


class LookTest(unittest.TestCase):

    def refused(self, deeds, at):
        with self.assertRaises(NoDeeds) as told:
            look_deeds(deeds)
        self.assertEqual(told.exception.at, at)
        with self.assertRaises(NoDeeds) as told:
            deeds_run(deeds, None, None, memory=None, budget=None)
        self.assertEqual(told.exception.at, at)

    def none_at_each_place(self, wrong):
        """A thing that is no deed, whatever stands around it."""
        with self.subTest(wrong=wrong):
            self.refused((wrong,), 0)
            self.refused((LET, wrong), 1)
            self.refused((IF, wrong, LET), 3)
            self.refused((if_so(below("a"), [LET, wrong], [LET]), None), 2)
            self.refused((if_so(below("a"), [LET, LET], [WHILE, wrong]), None), 5)
            self.refused((LET, while_so(below("a"), [wrong])), 2)
            self.refused((wrong, wrong), 0)

    def test_deeds(self):
        for deeds in ((), (LET,), (READ,), (WRITE,), (IF,), (WHILE,), (LET, READ, WRITE, IF, WHILE)):
            self.assertIsNone(look_deeds(deeds))
        self.assertIsNone(look_deeds(deeds=()))
        for name in "abcd":
            self.assertIsNone(look_deeds((("let", name, total("0")), ("read", name, 2, total("d")), ("write", 1, total("c"), name))))
        self.assertIsNone(look_deeds((if_so(same("a"), [], []), while_so(same("a"), []))))

    def test_no_tuple_at_all(self):
        for thing in (None, True, 0, "", "let", [], [LET], {}, {0: LET}, Rule(), Bundle((("stop",),), {}), [0] * 39000):
            self.refused(thing, 0)

    def test_things_that_are_no_deeds(self):
        for wrong in (None, True, 0, "", "let", (), [], {}, list(LET), (None,), ("let",), ([],), ({}, "a"), (("let",), "a", total("b")),
                      (1, "a", total("b")), ("Let", "a", total("b")), ("stop",), Rule(), (LET,)):
            self.none_at_each_place(wrong)

    def test_parts_too_few_and_too_many(self):
        for deed in (LET, READ, WRITE, IF, WHILE):
            self.none_at_each_place(deed[:-1])
            self.none_at_each_place(deed + (deed[-1],))
            self.none_at_each_place(deed[:1])

    def test_names(self):
        for name in ("", "e", "A", "aa", "p0", " a", None, True, 0, 1, ("a",), ["a"], {}, total("a")):
            self.none_at_each_place(("let", name, total("b")))
            self.none_at_each_place(("read", name, 0, total("b")))
            self.none_at_each_place(("write", 0, total("b"), name))

    def test_areas(self):
        for number in (0, 1, 2):
            self.assertIsNone(look_deeds((("read", "a", number, total("b")), ("write", number, total("b"), "a"))))
        for number in (-1, 3, 10 ** 59, True, False, None, "0", (0,), [0], {}):
            self.none_at_each_place(("read", "a", number, total("b")))
            self.none_at_each_place(("write", number, total("b"), "a"))

    def test_sums(self):
        for form in ((0,) * 5, (MOST,) * 5, (-MOST,) * 5):
            self.assertIsNone(look_deeds((("let", "a", form), ("read", "a", 0, form), ("write", 0, form, "a"))))
            self.assertIsNone(look_deeds((("if", ("same", form), [], (), (), []), ("while", ("below", form), [], ()))))
        beyond = [(0,) * at + (number,) + (0,) * (4 - at) for at in range(5) for number in (MOST + 1, -MOST - 1, 10 ** 59, True, False)]
        others = [(), (0,), (0,) * 4, (0,) * 6, [0] * 5, (0, 0, 0, 0, None), (0, 0, 0, 0, "0"), None, True, 0, "a", {}]
        for form in beyond + others:
            self.none_at_each_place(("let", "a", form))
            self.none_at_each_place(("read", "a", 0, form))
            self.none_at_each_place(("write", 0, form, "a"))
            self.none_at_each_place(("if", ("below", form), [], (), (), []))
            self.none_at_each_place(("while", ("same", form), [], ()))

    def test_tests(self):
        form = total("a")
        for test in (None, True, (), (form,), ("below",), ("above", form), ("", form), (None, form), (True, form), (["same"], form),
                     ["below", form], ("below", form, form), ("below", [form]), form, "below", {"below": form}):
            self.none_at_each_place(("if", test, [], (), (), []))
            self.none_at_each_place(("while", test, [], ()))

    def test_keeps(self):
        great = (10 ** 500, -10 ** 500) + (0,) * 6
        for keeps in ([], [KEEP], [great, KEEP, KEEP, great]):
            self.assertIsNone(look_deeds((("if", below("a"), keeps, (), (), keeps), ("while", below("a"), keeps, ()))))
        for keeps in ([KEEP] * 5, (), (KEEP,), None, True, "", {}, {0: KEEP}, KEEP, [None], [KEEP[:7]], [KEEP + (0,)], [list(KEEP)],
                      [KEEP[:7] + (True,)], [KEEP[:7] + (None,)], [()], [KEEP, []], [total("a")]):
            self.none_at_each_place(("if", below("a"), keeps, (), (), []))
            self.none_at_each_place(("if", below("a"), [], (), (), keeps))
            self.none_at_each_place(("while", below("a"), keeps, ()))

    def test_inner_deeds_that_are_no_tuples(self):
        # This is of the deed itself, not of those in it.
        for deeds in (None, True, 0, "", [], [LET], {}, {0: LET}):
            self.none_at_each_place(("if", below("a"), [], deeds, (), []))
            self.none_at_each_place(("if", below("a"), [], (), deeds, []))
            self.none_at_each_place(("while", below("a"), [], deeds))
            self.refused((("if", below("a"), [], (None,), deeds, []),), 0)

    def test_the_first_of_several(self):
        self.refused((if_so(below("a"), [LET, None], [None]), None), 2)
        self.refused((if_so(below("a"), [LET, LET], [None]), None), 3)
        self.refused((("if", None, [], (None,), (), []),), 0)
        self.refused((while_so(below("a"), [while_so(below("a"), []), while_so(below("a"), [None])]), None), 3)

    def test_twenty_and_twenty_one(self):
        self.assertIsNone(look_deeds((LET,) * 20))
        self.refused((LET,) * 21, 20)
        self.refused((LET,) * 5000, 20)
        self.assertIsNone(look_deeds((IF,) * 6 + (WHILE,)))
        self.refused((IF,) * 6 + (WHILE, LET), 20)
        self.assertIsNone(look_deeds((if_so(below("a"), [LET] * 10, [LET] * 9),)))
        self.refused((if_so(below("a"), [LET] * 10, [LET] * 10),), 20)
        self.refused((if_so(below("a"), [LET] * 20),), 20)
        self.refused((while_so(below("a"), [LET] * 19), LET), 20)
        # What is wrong behind the twenty-first is not looked at; what is wrong ahead of it is.
        self.refused((LET,) * 21 + (None,), 20)
        self.refused((LET,) * 20 + (None,), 20)
        self.refused((LET,) * 19 + (None, LET), 19)

    def test_four_and_five_within_one_another(self):
        for word in ("if", "while"):
            self.assertIsNone(look_deeds((nested(4, word),)))
            self.refused((nested(5, word),), 4)
            self.refused((LET, nested(5, word), None), 5)
            self.refused((nested(9, word),), 4)
        self.refused((if_so(below("a"), [LET], [nested(4)]),), 5)
        self.assertIsNone(look_deeds((if_so(below("a"), [LET], [nested(3)]), nested(4, "while"))))
        empty = if_so(below("a"), [], [])
        self.assertIsNone(look_deeds((if_so(below("a"), [if_so(below("a"), [if_so(below("a"), [empty])])]),)))
        deep = ()
        for _ in range(28):
            deep = (("while", below("a"), [], deep),)
        self.refused(deep, 4)

    def test_nothing_is_changed(self):
        deeds = (if_so(below("a"), [WHILE], [LET], [KEEP], [KEEP, KEEP]),)
        held = copy.deepcopy(deeds)
        look_deeds(deeds)
        deeds_run(deeds, Rule(), P)
        self.assertEqual(deeds, held)


class RunTest(unittest.TestCase):

    def told(self, deeds, expected, memory=(), budget=300, rule=RULE, p=P):
        self.assertEqual(deeds_run(tuple(deeds), rule, p, memory=memory, budget=budget), expected)

    def test_no_deeds(self):
        self.told([], ("ended", (2, -4, 5, 0), {}, None))
        self.told([], ("ended", (2, -4, 5, 0), {11: 1, 40: 3}, None), memory={11: 1, 40: 3}, budget=0)
        self.assertEqual(deeds_run((), Rule(), [7, 8, 9]), ("ended", (7, 8, 9, 0), {}, None))

    def test_let(self):
        self.told([let("d", "2*a - b + c + 7")], ("ended", (2, -4, 5, 20), {}, None))
        self.told([let("a", "a + 1"), let("a", "3*a"), let("b", "a"), let("c", "-d - 1")], ("ended", (9, 9, -1, 0), {}, None))
        self.told([let("b", "0"), let("d", "a + b + c")], ("ended", (2, 0, 5, 7), {}, None))

    def test_read(self):
        memory = {10: 4, 12: -3, 20: 9, 23: 8, 30: 7, 32: 6}
        for number, place, held in ((0, 10, 4), (0, 11, 0), (0, 12, -3), (1, 20, 9), (1, 23, 8), (2, 30, 7), (2, 31, 0), (2, 32, 6)):
            self.told([("read", "d", number, total(f"a + {place - 2}"))], ("ended", (2, -4, 5, held), memory, None), memory=memory)
        self.told([("read", "a", 0, total("5*a")), let("d", "a")], ("ended", (4, -4, 5, 4), memory, None), memory=memory)

    def test_read_outside(self):
        for number, place in ((0, 9), (0, 13), (1, 19), (1, 24), (2, 29), (2, 33), (0, 20), (1, 10)):
            self.told([LET, ("read", "d", number, total(f"c + {place - 5}"))], ("forbidden", (-4, -4, 5, 0), {}, 1))

    def test_write(self):
        for number, place in ((0, 10), (0, 12), (1, 20), (1, 23)):
            self.told([("write", number, total(f"a + {place - 2}"), "c")], ("ended", (2, -4, 5, 0), {place: 5}, None))
        self.told([("write", 0, total("5*a"), "c"), ("read", "d", 0, total("10")), ("write", 0, total("5*a"), "b")],
                  ("ended", (2, -4, 5, 5), {10: -4, 41: 1}, None), memory={10: 1, 41: 1})

    def test_write_outside(self):
        for number, place in ((0, 9), (0, 13), (1, 19), (1, 24), (2, 30), (2, 32), (2, 29), (0, 20), (1, 10)):
            self.told([LET, ("write", number, total(f"c + {place - 5}"), "c")], ("forbidden", (-4, -4, 5, 0), {}, 1))

    def test_write_below_low_and_above_high(self):
        for held, word in ((-5, "forbidden"), (-4, "ended"), (0, "ended"), (5, "ended"), (6, "forbidden")):
            deeds = [let("d", str(held)), ("write", 0, total("11"), "d")]
            if word == "ended":
                self.told(deeds, (word, (2, -4, 5, held), {11: held}, None))
            else:
                self.told(deeds, (word, (2, -4, 5, held), {}, 1))
            self.told([let("d", str(held)), ("write", 1, total("21"), "d")], ("ended", (2, -4, 5, held), {21: held}, None))

    def test_an_area_that_is_not_there(self):
        for many in range(3):
            rule = Rule(areas=RULE.areas[:many])
            for number in range(many, 3):
                for deed in (("read", "d", number, total("11")), ("write", number, total("11"), "d")):
                    self.told([LET, LET, deed], ("forbidden", (-4, -4, 5, 0), {}, 2), rule=rule)

    def test_if(self):
        for test, so in ((below("a - 3"), True), (below("a - 2"), False), (below("a - 1"), False), (same("a - 2"), True),
                         (same("a - 3"), False), (same("a - 1"), False), (below("0"), False), (same("0"), True), (below("-1"), True)):
            deeds = [if_so(test, [let("d", "1")], [let("d", "2")])]
            self.told(deeds, ("ended", (2, -4, 5, 1 if so else 2), {}, None))
            self.told([if_so(test, [], [let("d", "2")])], ("ended", (2, -4, 5, 0 if so else 2), {}, None))
            self.told([if_so(test, [let("d", "1")])], ("ended", (2, -4, 5, 1 if so else 0), {}, None))
            self.told([if_so(test, [])], ("ended", (2, -4, 5, 0), {}, None), budget=1)

    def test_while(self):
        # d becomes 2 times 5, by adding.
        self.told([while_so(below("-c"), [let("d", "a + d"), let("c", "c - 1")])], ("ended", (2, -4, 0, 10), {}, None))
        self.told([while_so(same("a - 3"), [let("d", "1")])], ("ended", (2, -4, 5, 0), {}, None))
        self.told([while_so(same("d"), [let("d", "1")])], ("ended", (2, -4, 5, 1), {}, None))

    def test_within_one_another(self):
        inner = while_so(below("-b + d - 8"), [if_so(same("d - 3"), [let("d", "d + 2")], [let("d", "d + 1")])])
        outer = while_so(below("a - 4"), [let("d", "0"), inner, let("a", "a + 1")])
        # b is -4, so d goes up to 4, and by 5 over 3 .. 5: 0, 1, 2, 3, 5.
        self.told([outer, let("c", "a + d")], ("ended", (4, -4, 9, 5), {}, None))

    def test_keeps_do_nothing(self):
        wrong = [(-1, 0, 0, 0, 0, 0, 0, 0)] * 4
        self.told([if_so(below("a"), [LET], [LET], wrong, wrong), while_so(same("d"), [let("d", "1")], wrong)],
                  ("ended", (-4, -4, 5, 1), {}, None))

    def test_numbers_of_forbidden_deeds(self):
        bad = ("read", "d", 0, total("0"))
        for deeds, number in (
            ([bad], 0), ([LET, bad], 1), ([if_so(below("-1"), [bad], [LET])], 1), ([if_so(below("0"), [LET, LET], [LET, bad])], 4),
            ([IF, bad], 3), ([WHILE, IF, bad], 5), ([while_so(below("-1"), [LET, bad])], 2),
            ([if_so(below("0"), [WHILE, IF], [while_so(below("-1"), [if_so(below("0"), [LET], [bad])])])], 9),
            ([LET, if_so(below("-1"), [if_so(below("0"), [LET]), while_so(below("0"), [LET])]), bad], 6),
        ):
            told = deeds_run(tuple(deeds), RULE, P)
            self.assertEqual((told[0], told[3]), ("forbidden", number))

    def test_a_deed_that_is_forbidden_at_a_later_time(self):
        deeds = [let("d", "10"), while_so(below("-1"), [("write", 0, total("d"), "c"), let("d", "d + 1")])]
        self.told(deeds, ("forbidden", (2, -4, 5, 13), {10: 5, 11: 5, 12: 5}, 2))

    def test_numbers_that_grow(self):
        deeds = [while_so(below("-1"), [("let", "a", (0, MOST, 0, 0, 0))])]
        told = deeds_run(tuple(deeds), Rule(), (1, 0, 0), budget=400)
        self.assertEqual(told, ("open", (10 ** 1200, 0, 0, 0), {}, None))


class BudgetTest(unittest.TestCase):

    def told(self, deeds, budget, expected, rule=RULE):
        self.assertEqual(deeds_run(tuple(deeds), rule, P, budget=budget), expected)

    def test_each_let_read_and_write_is_one(self):
        deeds = [let("d", "11"), ("read", "a", 0, total("d")), ("write", 0, total("d"), "c")]
        for budget, expected in (
            (0, ("open", (2, -4, 5, 0), {}, None)), (1, ("open", (2, -4, 5, 11), {}, None)), (2, ("open", (0, -4, 5, 11), {}, None)),
            (3, ("ended", (0, -4, 5, 11), {11: 5}, None)), (4, ("ended", (0, -4, 5, 11), {11: 5}, None)),
            (20000, ("ended", (0, -4, 5, 11), {11: 5}, None)),
        ):
            self.told(deeds, budget, expected)

    def test_each_test_is_one(self):
        deeds = [if_so(below("-1"), [let("d", "1")]), let("c", "1")]
        for budget, expected in ((0, (5, 0)), (1, (5, 0)), (2, (5, 1)), (3, (1, 1))):
            word = "ended" if budget == 3 else "open"
            self.told(deeds, budget, (word, (2, -4, *expected), {}, None))

    def test_each_test_of_a_while_is_one(self):
        # Two times round: three tests and two lets.
        deeds = [while_so(below("d - 2"), [let("d", "d + 1")])]
        for budget, d in enumerate((0, 0, 1, 1, 2)):
            self.told(deeds, budget, ("open", (2, -4, 5, d), {}, None))
        self.told(deeds, 5, ("ended", (2, -4, 5, 2), {}, None))
        self.told([while_so(below("0"), [LET])], 1, ("ended", (2, -4, 5, 0), {}, None))
        self.told([while_so(below("0"), [LET])], 0, ("open", (2, -4, 5, 0), {}, None))

    def test_empty_bodies(self):
        self.told([while_so(below("-1"), [])], 7, ("open", (2, -4, 5, 0), {}, None))
        self.told([if_so(below("-1"), [], [])] * 5, 5, ("ended", (2, -4, 5, 0), {}, None))
        self.told([if_so(below("-1"), [], [])] * 5, 4, ("open", (2, -4, 5, 0), {}, None))

    def test_used_up_ahead_of_a_forbidden_deed(self):
        for bad in (("read", "d", 0, total("0")), ("write", 2, total("30"), "d"), ("write", 0, total("11"), "d")):
            rule = Rule(areas=[(constant(10), constant(13), "both", constant(5), constant(9))] + list(RULE.areas[1:]))
            memory = {10: 5, 11: 5, 12: 5}
            for ahead in ([], [LET], [if_so(below("0"), [LET])]):
                many = len(ahead)
                told = deeds_run((*ahead, bad), rule, P, memory=memory, budget=many)
                self.assertEqual((told[0], told[3]), ("open", None))
                told = deeds_run((*ahead, bad), rule, P, memory=memory, budget=many + 1)
                self.assertEqual((told[0], told[2]), ("forbidden", memory))
                self.assertEqual(told[3], 0 if not ahead else 1 if ahead == [LET] else 2)

    def test_a_while_that_never_ends(self):
        deeds = [while_so(same("a - 2"), [let("d", "d + 1")])]
        self.told(deeds, 300, ("open", (2, -4, 5, 150), {}, None))
        self.told(deeds, 301, ("open", (2, -4, 5, 150), {}, None))
        self.told(deeds, 20000, ("open", (2, -4, 5, 10000), {}, None))
        self.assertEqual(deeds_run(tuple(deeds), RULE, P)[1][3], 150)
        within = while_so(same("a - 2"), [while_so(same("a - 2"), [while_so(same("a - 2"), [let("d", "d + 1")])])])
        self.assertEqual(deeds_run((within,), RULE, P, budget=20000)[0], "open")

    def test_budgets_that_are_none(self):
        for budget in (-1, 20001, 10 ** 59, -10 ** 59, True, False, None, "", "3", (), [3], {}, Rule()):
            with self.subTest(budget=budget):
                with self.assertRaises(NoNumber):
                    deeds_run((), Rule(), P, budget=budget)


class RefusedTest(unittest.TestCase):

    def refused(self, kind, deeds, rule, p, **named):
        with self.assertRaises(kind):
            deeds_run(deeds, rule, p, **named)

    def test_in_turn(self):
        for rule in (None, True, 0, "", (), [], {}, Rule, ((), (), ())):
            self.refused(NoRule, (), rule, P)
            self.refused(NoRule, (), rule, None, memory=None, budget=None)
            self.refused(NoDeeds, None, rule, None, memory=None, budget=None)
            self.refused(NoDeeds, (None,), rule, P)
        for p in (None, True, (), (0, 0), [0, 0, True], (MOST + 1, 0, 0), {}, (0, 0, 0, 0), "000"):
            self.refused(NoStart, (), Rule(), p)
            self.refused(NoStart, (), Rule(), p, budget=-1)
            self.refused(NoDeeds, [], Rule(), p)
        for memory in (None, True, 0, "", [], {True: 0}, {0: False}, {0: None}, {MOST + 1: 0}, (0,), {11: 6}):
            self.refused(NoStart, (), RULE, P, memory=memory)
            self.refused(NoStart, (), RULE, P, memory=memory, budget="x")
        self.refused(NoStart, (), Rule([constant(-1)]), P)

    def test_what_is_told_is_the_askers_own(self):
        memory, p = {11: 1}, [2, -4, 5]
        deeds = (("write", 0, total("12"), "c"),)
        told = deeds_run(deeds, RULE, p, memory=memory)
        self.assertEqual((memory, p), ({11: 1}, [2, -4, 5]))
        told[2][13] = 4
        memory[14] = 5
        self.assertEqual(deeds_run(deeds, RULE, p, memory={11: 1}), ("ended", (2, -4, 5, 0), {11: 1, 12: 5}, None))
        self.assertIs(type(told), tuple)
        self.assertIs(type(told[1]), tuple)

    def test_by_names(self):
        self.assertEqual(deeds_run(budget=3, memory={}, p=P, rule=Rule(), deeds=())[0], "ended")


if __name__ == "__main__":
    unittest.main()
