"""Point 11: runs of rows, what is told of them, and their way."""

import unittest

from paperrows.bundles import Bundle
from paperrows.errors import NoNumber, NoRows, NoRule, NoStart
from paperrows.rules import Rule
from paperrows.runs import Run, run, way

MOST = 1000000
STOP = ("stop",)


def constant(number):
    return (number, 0, 0, 0)


# Area 0 may be written with worths from p1 to p2, area 1 with any, area 2 may only be read.
RULE = Rule(areas=[
    (constant(10), constant(13), "both", (0, 0, 1, 0), (0, 0, 0, 1)),
    (constant(20), (22, 1, 0, 0), "both", None, None),
    (constant(30), constant(33), "read", None, None),
])
P = (2, -4, 5)


def values(told):
    return (told.word, told.row, told.registers, told.memory(), told.steps)


class RowsDoneTest(unittest.TestCase):

    def test_each_word_that_reckons(self):
        rows = (
            ("set", 3, 7), ("copy", 4, 3), ("plus", 5, 3, 4), ("minus", 0, 5, 1), ("more", 1, 0, -4), ("fold", 2, 1, -3),
            STOP,
        )
        told = run(rows, Rule(), (1, 2, 3))
        self.assertEqual(values(told), ("stopped", 6, (12, 8, -24, 7, 7, 14), {}, 7))
        self.assertEqual(way(rows, Rule(), (1, 2, 3)), [
            (0, (1, 2, 3, 0, 0, 0)),
            (1, (1, 2, 3, 7, 0, 0)),
            (2, (1, 2, 3, 7, 7, 0)),
            (3, (1, 2, 3, 7, 7, 14)),
            (4, (12, 2, 3, 7, 7, 14)),
            (5, (12, 8, 3, 7, 7, 14)),
            (6, (12, 8, -24, 7, 7, 14)),
        ])

    def test_a_register_of_its_own_worth(self):
        rows = (("plus", 0, 0, 0), ("minus", 1, 1, 0), ("fold", 2, 2, 0), ("more", 3, 3, 1), ("copy", 4, 4), STOP)
        self.assertEqual(run(rows, Rule(), (3, 1, 9)).registers, (6, -5, 0, 1, 0, 0))

    def test_jump(self):
        rows = (("jump", 2), STOP, ("jump", 1))
        self.assertEqual(values(run(rows, Rule(), (0, 0, 0))), ("stopped", 1, (0,) * 6, {}, 3))
        self.assertEqual([at for at, _ in way(rows, Rule(), (0, 0, 0))], [0, 2, 1])

    def test_below_and_same(self):
        for word, taken, passed in (
            ("below", [(1, 2), (-2, -1), (-MOST, MOST)], [(2, 2), (2, 1), (0, -1)]),
            ("same", [(2, 2), (-1, -1), (0, 0)], [(1, 2), (2, 1), (1, -1)]),
        ):
            rows = ((word, 1, 0, 2), STOP, STOP)
            for pairs, row in ((taken, 2), (passed, 1)):
                for one, other in pairs:
                    told = run(rows, Rule(), (other, one, 0))
                    self.assertEqual((told.word, told.row, told.steps), ("stopped", row, 2), (word, one, other))

    def test_registers_at_the_beginning(self):
        self.assertEqual(run((STOP,), Rule(), [7, -8, 9]).registers, (7, -8, 9, 0, 0, 0))

    def test_a_loop(self):
        rows = (("below", 3, 0, 2), STOP, ("plus", 4, 4, 3), ("more", 3, 3, 1), ("below", 3, 0, 2), STOP)
        told = run(rows, Rule(), (5, 0, 0))
        self.assertEqual(values(told), ("stopped", 5, (5, 0, 0, 5, 10, 0), {}, 17))


class MemoryTest(unittest.TestCase):

    def reads(self, place, number, further=0):
        rows = (("set", 3, place - further), ("read", 4, 3, further, number), STOP)
        return run(rows, RULE, P, memory={10: 1, 12: 2, 20: 3, 23: 4, 30: 5, 32: 6, 9: 7, 13: 8, 19: 9, 24: 8, 29: 7, 33: 6})

    def writes(self, place, number, held, further=0):
        rows = (("set", 3, place - further), ("set", 4, held), ("write", 3, further, 4, number), STOP)
        return run(rows, RULE, P)

    def test_first_and_last_places_are_read(self):
        for place, number, held in ((10, 0, 1), (11, 0, 0), (12, 0, 2), (20, 1, 3), (23, 1, 4), (30, 2, 5), (32, 2, 6)):
            for further in (0, 3, -100):
                told = self.reads(place, number, further)
                self.assertEqual((told.word, told.row, told.steps, told.registers[4]), ("stopped", 2, 3, held))

    def test_reads_outside(self):
        for place, number in ((9, 0), (13, 0), (19, 1), (24, 1), (29, 2), (33, 2), (10, 1), (20, 0), (30, 0), (12, 2)):
            for further in (0, 3, -100):
                told = self.reads(place, number, further)
                self.assertEqual((told.word, told.row, told.steps), ("forbidden", 1, 1))
                self.assertEqual(told.registers, (2, -4, 5, place - further, 0, 0))

    def test_first_and_last_places_are_written(self):
        for place, number in ((10, 0), (12, 0), (20, 1), (23, 1)):
            for further in (0, 2, -7):
                told = self.writes(place, number, 5, further)
                self.assertEqual((told.word, told.row, told.steps, told.memory()), ("stopped", 3, 4, {place: 5}))

    def test_writes_outside(self):
        for place, number in ((9, 0), (13, 0), (19, 1), (24, 1), (12, 1), (20, 0)):
            for further in (0, 2, -7):
                told = self.writes(place, number, 5, further)
                self.assertEqual((told.word, told.row, told.steps, told.memory()), ("forbidden", 2, 2, {}))

    def test_writes_where_only_reading_is_allowed(self):
        for place in (30, 31, 32, 29, 33):
            self.assertEqual(values(self.writes(place, 2, 0)), ("forbidden", 2, (2, -4, 5, place, 0, 0), {}, 2))

    def test_worths_at_low_and_high_and_beyond(self):
        for held, word in ((-5, "forbidden"), (-4, "stopped"), (0, "stopped"), (5, "stopped"), (6, "forbidden")):
            self.assertEqual(self.writes(11, 0, held).word, word)
        for held in (-MOST, MOST):
            self.assertEqual(self.writes(11, 0, held).word, "forbidden")
            self.assertEqual(self.writes(21, 1, held).word, "stopped")

    def test_what_is_read_may_be_beyond_low_and_high(self):
        # An area's worths are asked for at the start and at writes; area 1 has neither low nor high.
        self.assertEqual(self.reads(20, 1).registers[4], 3)

    def test_an_area_that_is_not_there(self):
        for areas in ([], RULE.areas[:1], RULE.areas[:2]):
            rule = Rule(areas=areas)
            for number in range(len(areas), 3):
                for row in (("read", 3, 0, 8, number), ("write", 0, 8, 2, number)):
                    told = run((row, STOP), rule, P)
                    self.assertEqual(values(told), ("forbidden", 0, (2, -4, 5, 0, 0, 0), {}, 0))

    def test_an_area_without_places(self):
        rule = Rule(areas=[(constant(5), constant(5), "both", None, None)])
        for place in (4, 5, 6):
            self.assertEqual(run((("read", 0, 3, place, 0), STOP), rule, P).word, "forbidden")
            self.assertEqual(run((("write", 3, place, 0, 0), STOP), rule, P).word, "forbidden")

    def test_what_is_written_is_read_again(self):
        rows = (("write", 3, 11, 2, 0), ("read", 4, 3, 11, 0), ("write", 3, 11, 1, 0), ("read", 5, 3, 11, 0), STOP)
        told = run(rows, RULE, P, memory={40: 41})
        self.assertEqual(values(told), ("stopped", 4, (2, -4, 5, 0, 5, -4), {11: -4, 40: 41}, 5))

    def test_what_is_read_is_not_written(self):
        rows = (("read", 4, 3, 11, 0), STOP)
        self.assertEqual(run(rows, RULE, P).memory(), {})
        self.assertEqual(run(rows, RULE, P, memory={11: 0}).memory(), {11: 0})

    def test_ways_of_memory(self):
        rows = (("write", 3, 11, 2, 0), STOP)
        self.assertEqual(run(rows, RULE, P).memory(), {11: 5})
        self.assertEqual(run(rows, RULE, P, memory=()).memory(), {11: 5})
        self.assertEqual(run(rows, RULE, P, memory={}).memory(), {11: 5})
        self.assertEqual(run(rows, RULE, P, memory={12: 1, 11: 2}).memory(), {12: 1, 11: 5})
        self.assertEqual(way(rows, RULE, P, memory={12: 1}), way(rows, RULE, P, memory=()))

    def test_the_memory_is_the_askers_own(self):
        memory, p = {12: 1}, [2, -4, 5]
        rows = (("write", 3, 11, 2, 0), STOP)
        told = run(rows, RULE, p, memory=memory)
        self.assertEqual((memory, p), ({12: 1}, [2, -4, 5]))
        memory[13] = 7
        p[0] = 9
        told.memory()[14] = 8
        self.assertEqual(values(told), ("stopped", 1, (2, -4, 5, 0, 0, 0), {11: 5, 12: 1}, 2))


class BudgetTest(unittest.TestCase):

    def test_used_up_ahead_of_a_stop(self):
        rows = (("set", 3, 1), ("set", 4, 2), STOP)
        for budget, told in ((0, ("open", 0, 0)), (1, ("open", 1, 1)), (2, ("open", 2, 2)), (3, ("stopped", 2, 3)),
                             (4, ("stopped", 2, 3)), (20000, ("stopped", 2, 3))):
            found = run(rows, Rule(), P, budget=budget)
            self.assertEqual((found.word, found.row, found.steps), told)

    def test_used_up_ahead_of_a_forbidden_row(self):
        rows = (("set", 3, 1), ("read", 4, 3, 0, 0), STOP)
        for budget, told in ((0, ("open", 0, 0)), (1, ("open", 1, 1)), (2, ("forbidden", 1, 1)), (3, ("forbidden", 1, 1))):
            found = run(rows, RULE, P, budget=budget)
            self.assertEqual((found.word, found.row, found.steps), told)
        self.assertEqual(run((("read", 4, 3, 0, 0), STOP), RULE, P, budget=0).word, "open")

    def test_a_budget_of_nought(self):
        told = run((STOP,), RULE, P, memory={11: 1}, budget=0)
        self.assertEqual(values(told), ("open", 0, (2, -4, 5, 0, 0, 0), {11: 1}, 0))

    def test_a_run_without_an_end(self):
        rows = (("more", 3, 3, 1), ("jump", 1))
        self.assertEqual(values(run(rows, Rule(), P)), ("open", 1, (2, -4, 5, 1, 0, 0), {}, 1000))
        self.assertEqual(values(run(rows, Rule(), P, budget=20000)), ("open", 1, (2, -4, 5, 1, 0, 0), {}, 20000))
        self.assertEqual(len(way(rows, Rule(), P)), 1001)
        self.assertEqual(len(way(rows, Rule(), P, budget=20000)), 20001)

    def test_budgets_that_are_none(self):
        for budget in (-1, 20001, -10 ** 59, 10 ** 59, True, False, None, "", "5", (), [3], {}, Rule()):
            with self.subTest(budget=budget):
                with self.assertRaises(NoNumber):
                    run((STOP,), Rule(), P, budget=budget)
                with self.assertRaises(NoNumber):
                    way((STOP,), Rule(), P, budget=budget)

    def test_numbers_that_grow(self):
        rows = (("set", 3, MOST), ("fold", 3, 3, MOST), ("jump", 1))
        told = run(rows, Rule(), P, budget=401)
        self.assertEqual((told.word, told.row, told.registers[3]), ("open", 1, 10 ** (6 * 201)))
        rows = (("fold", 0, 0, -MOST), ("write", 3, 21, 0, 1), ("read", 4, 3, 21, 1), ("fold", 4, 4, MOST), STOP)
        told = run(rows, RULE, (2, -4, 5))
        self.assertEqual((told.registers[4], told.memory()), (-2 * 10 ** 12, {21: -2 * 10 ** 6}))


class WayTest(unittest.TestCase):

    def test_of_a_stopped_run(self):
        rows = (("jump", 2), STOP, ("set", 0, 4), ("jump", 1))
        self.assertEqual(way(rows, Rule(), P), [
            (0, (2, -4, 5, 0, 0, 0)), (2, (2, -4, 5, 0, 0, 0)), (3, (4, -4, 5, 0, 0, 0)), (1, (4, -4, 5, 0, 0, 0)),
        ])
        self.assertEqual(way((STOP,), Rule(), P), [(0, (2, -4, 5, 0, 0, 0))])

    def test_of_a_forbidden_run(self):
        rows = (("set", 3, 1), ("read", 4, 3, 0, 0), STOP)
        self.assertEqual(way(rows, RULE, P), [(0, (2, -4, 5, 0, 0, 0)), (1, (2, -4, 5, 1, 0, 0))])
        self.assertEqual(way(rows[1:], RULE, P), [(0, (2, -4, 5, 0, 0, 0))])

    def test_of_an_open_run(self):
        rows = (("set", 3, 1), ("set", 4, 2), STOP)
        begin = [(0, (2, -4, 5, 0, 0, 0)), (1, (2, -4, 5, 1, 0, 0)), (2, (2, -4, 5, 1, 2, 0))]
        for budget in range(3):
            self.assertEqual(way(rows, Rule(), P, budget=budget), begin[:budget + 1])
        self.assertEqual(way(rows, Rule(), P, budget=3), begin)

    def test_the_list_is_the_askers_own(self):
        rows = (("set", 3, 1), STOP)
        told = way(rows, Rule(), P)
        told.clear()
        self.assertEqual(len(way(rows, Rule(), P)), 2)


class EqualTest(unittest.TestCase):

    ROWS = (("write", 3, 11, 2, 0), ("set", 2, 3), STOP)

    def test_equal(self):
        one, other = run(self.ROWS, RULE, P), run(self.ROWS, RULE, list(P), memory={11: -1})
        self.assertIs(one == other, True)
        self.assertIs(other == one, True)
        self.assertIs(one != other, False)

    def test_runs_of_other_rows_that_went_the_same(self):
        other = run((("set", 2, 3), ("set", 3, 0), STOP), Rule(), P, memory={11: 5})
        self.assertEqual(run(self.ROWS, RULE, P), other)

    def test_each_value_counts(self):
        begin = ("open", 1, (0, 0, 0, 0, 0, 0), {1: 2}, 3)
        one = Run(*begin)
        for at, part in ((0, "stopped"), (1, 2), (2, (0, 0, 0, 0, 0, 1)), (3, {1: 3}), (3, {}), (3, {1: 2, 3: 0}), (4, 4)):
            other = Run(*[part if place == at else thing for place, thing in enumerate(begin)])
            self.assertIs(one == other, False)
            self.assertIs(other == one, False)
            self.assertIs(one != other, True)
        self.assertEqual(one, Run(*begin))

    def test_runs_that_differ(self):
        one = run(self.ROWS, RULE, P)
        for other in (
            run(self.ROWS, RULE, P, memory={12: 0}), run(self.ROWS, RULE, P, budget=2), run(self.ROWS, RULE, (1, -4, 5)),
            run(self.ROWS[:2] + (("jump", 3), STOP), RULE, P), run((("set", 4, 0),) + self.ROWS, RULE, P),
        ):
            self.assertNotEqual(one, other)
            self.assertNotEqual(other, one)

    def test_nothing_else_is_equal(self):
        one = run((STOP,), Rule(), P)
        for thing in (None, True, 0, "", "stopped 0 1", (), [], {}, values(one), list(values(one)), Rule(),
                      Bundle((STOP,), {}), object()):
            self.assertIs(one == thing, False)
            self.assertIs(thing == one, False)
            self.assertIs(one != thing, True)

    def test_text(self):
        self.assertEqual(str(run((STOP,), Rule(), P)), "stopped 0 1")
        self.assertEqual(str(run((STOP,), Rule(), P, budget=0)), "open 0 0")
        self.assertEqual(str(run((("set", 3, 1), ("read", 4, 3, 0, 0), STOP), RULE, P)), "forbidden 1 1")
        self.assertEqual(str(run((("more", 3, 3, 1), ("jump", 1)), Rule(), P, budget=20000)), "open 1 20000")

    def test_values(self):
        told = run(self.ROWS, RULE, [2, -4, 5])
        self.assertIs(type(told.registers), tuple)
        self.assertIs(type(told.memory()), dict)
        self.assertIsInstance(told, Run)


class RefusalsTest(unittest.TestCase):

    NO_ROWS = (None, True, 0, "", (), [STOP], (("set", 0, 0),), {})
    NO_RULES = (None, True, 0, "", (), [], {}, ((), (), ()), Rule)
    NO_STARTS = (None, True, 0, "", (), (0, 0), [0, 0, True], (MOST + 1, 0, 0), {}, (1, 0, 0, 0))
    NO_MEMORIES = (None, True, 0, "", [], {True: 0}, {0: True}, {0: None}, {"0": 0}, {MOST + 1: 0}, (0,), ((0, 0),), Rule())

    def refused(self, kind, rows, rule, p, **named):
        with self.assertRaises(kind):
            run(rows, rule, p, **named)
        with self.assertRaises(kind):
            way(rows, rule, p, **named)

    def test_rows(self):
        for rows in self.NO_ROWS:
            self.refused(NoRows, rows, Rule(), P)
            self.refused(NoRows, rows, None, None, memory=None, budget=None)
        with self.assertRaises(NoRows) as told:
            run((STOP, ("jump", 9)), None, None)
        self.assertEqual(told.exception.at, 1)

    def test_rules(self):
        for rule in self.NO_RULES:
            self.refused(NoRule, (STOP,), rule, P)
            self.refused(NoRule, (STOP,), rule, None, memory=None, budget=None)

    def test_starts(self):
        for p in self.NO_STARTS:
            self.refused(NoStart, (STOP,), Rule(), p)
            self.refused(NoStart, (STOP,), Rule(), p, budget=True)
        for memory in self.NO_MEMORIES:
            self.refused(NoStart, (STOP,), Rule(), P, memory=memory)
            self.refused(NoStart, (STOP,), Rule(), P, memory=memory, budget=-1)
        self.refused(NoStart, (STOP,), RULE, P, memory={11: 6})
        self.refused(NoStart, (STOP,), RULE, (-3, -4, 5))
        self.refused(NoStart, (STOP,), RULE, (399, -4, 5))
        self.refused(NoStart, (STOP,), Rule([constant(-1)]), P)


if __name__ == "__main__":
    unittest.main()
