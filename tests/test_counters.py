"""Point 22: counters of deeds."""

import copy
import itertools
import random
import unittest

import chance as by_chance
from by_text import area, below, claims, given, if_so, let, read, while_so, write
from paperrows.counters import counter
from paperrows.errors import NoArea, NoDeeds, NoNumber, NoRule, Unmade
from paperrows.maker import made
from paperrows.rules import Rule, is_start


class Tried:
    """Deeds that are run step by step, in another way than the program's: it tells what is broken first."""

    def __init__(self, rule, p, memory):
        self.rule, self.p, self.held, self.left = rule, p, dict(memory), 300
        self.at = dict(zip("abcd", (*p, 0)))

    def of_p(self, form):
        return form[0] + sum(number * worth for number, worth in zip(form[1:], self.p))

    def total(self, form):
        return form[0] + sum(number * self.at[name] for number, name in zip(form[1:], "abcd"))

    def look(self, forms, word, deed):
        for form in forms:
            if self.of_p(form[:4]) + sum(number * self.at[name] for number, name in zip(form[4:8], "abcd")) < 0:
                raise StopIteration(word, deed)

    def spend(self):
        if self.left == 0:
            raise StopIteration(None, None)
        self.left -= 1

    def is_place(self, number, place):
        return number < len(self.rule.areas) and (
            self.of_p(self.rule.areas[number][0]) <= place < self.of_p(self.rule.areas[number][1]))

    def all(self, deeds, number):
        for deed in deeds:
            self.one(deed, number)
            number += count((deed,))

    def one(self, deed, number):
        word = deed[0]
        if word == "let":
            self.spend()
            self.at[deed[1]] = self.total(deed[2])
        elif word == "read":
            self.spend()
            if not self.is_place(deed[2], self.total(deed[3])):
                raise StopIteration("forbidden", number)
            self.at[deed[1]] = self.held.get(self.total(deed[3]), 0)
        elif word == "write":
            self.spend()
            place, put = self.total(deed[2]), self.at[deed[3]]
            if not self.is_place(deed[1], place) or self.rule.areas[deed[1]][2] == "read":
                raise StopIteration("forbidden", number)
            low, high = self.rule.areas[deed[1]][3:]
            if low is not None and not self.of_p(low) <= put <= self.of_p(high):
                raise StopIteration("forbidden", number)
            self.held[place] = put
        elif word == "if":
            so = self.asked(deed, number)
            self.all(deed[3] if so else deed[4], number + 1 + (0 if so else count(deed[3])))
            self.look(deed[5], "behind", number)
        else:
            while self.asked(deed, number):
                self.all(deed[3], number + 1)

    def asked(self, deed, number):
        self.look(deed[2], "keep", number)
        self.spend()
        told = self.total(deed[1][1])
        return told < 0 if deed[1][0] == "below" else told == 0


def count(deeds):
    return sum(1 + (count(deed[3]) if deed[0] in ("if", "while") else 0) + (count(deed[4]) if deed[0] == "if" else 0)
               for deed in deeds)


def expected(deeds, rule, reach):
    for p in itertools.product(range(-reach, reach + 1), repeat=3):
        memory, spare = {}, Tried(rule, p, {})
        for one in rule.areas:
            first, end = spare.of_p(one[0]), spare.of_p(one[1])
            if one[3] is not None and not spare.of_p(one[3]) <= 0 <= spare.of_p(one[4]) and end - first <= 400:
                memory.update({place: spare.of_p(one[3]) for place in range(first, end)})
        if not is_start(rule, p, memory):
            continue
        tried = Tried(rule, p, memory)
        try:
            tried.all(deeds, 0)
            tried.look([end[:8] for end in rule.ends], "ends", count(deeds))
        except StopIteration as told:
            if told.args[0] is not None:
                return (p, memory, *told.args)
    return None


class CounterTest(unittest.TestCase):

    def told(self, deeds, rule, told, **reach):
        held = copy.deepcopy((deeds, rule.given, rule.areas, rule.ends))
        answer = counter(deeds, rule, **reach)
        self.assertEqual(answer, told)
        self.assertEqual(expected(deeds, rule, reach.get("reach", 2)), told)
        self.assertEqual((deeds, rule.given, rule.areas, rule.ends), held)
        if told is not None:
            self.assertIsInstance(answer[0], tuple)
            answer[1][5] = 9
            answer[1].pop(0, None)
            self.assertEqual(counter(rule=rule, deeds=deeds, **reach), told)
            with self.assertRaises((Unmade, NoArea)):
                made(deeds, rule)

    def test_reach(self):
        rule = Rule([], [], claims("p0 + 3", "p1 + 1", "p2 + 2"))
        self.told((), rule, None, reach=0)
        self.told((), rule, None, reach=1)
        self.told((), rule, ((-2, -2, -2), {}, "ends", 0), reach=2)
        self.told((), rule, ((-2, -2, -2), {}, "ends", 0))
        self.told((), rule, ((-3, -3, -3), {}, "ends", 0), reach=3)
        self.told((), rule, ((-4, -4, -4), {}, "ends", 0), reach=4)
        self.told((), Rule([], [], claims("p2")), ((-2, -2, -2), {}, "ends", 0))
        self.told((), Rule([], [], claims("p2 - p1 - p0 + 4")), ((1, 2, -2), {}, "ends", 0))
        self.told((), Rule([], [], claims("-p0 - p1 - p2 + 5")), ((2, 2, 2), {}, "ends", 0))
        self.told((), Rule([], [], claims("-1")), ((0, 0, 0), {}, "ends", 0), reach=0)

    def test_no_reach(self):
        for thing in (-1, 5, True, False, "2", None, [2], 10 ** 60, (1,)):
            with self.assertRaises(NoNumber):
                counter((), Rule(), reach=thing)

    def test_the_first_one_in_turn(self):
        self.told((), Rule(given("p0 - 1", "p2"), [], claims("p1 - 1")), ((1, -2, 0), {}, "ends", 0))
        self.told((), Rule(given("p0"), [], claims("p2 + p1 - 1", "p1 + 5")), ((0, -2, -2), {}, "ends", 0))
        self.told((), Rule([], [], claims("p2 - p1 + 3")), ((-2, 2, -2), {}, "ends", 0))
        self.told((), Rule([], [], claims("p2 + 2 - p1 * 0 + p0 * 0")), None)
        self.told((let("d", "a + b"),), Rule(given("p0 + p1"), [], claims("r3 - 1")), ((-2, 2, -2), {}, "ends", 1))

    def test_each_word(self):
        rule = Rule(given("p0 - 2"), [area("0", "p0", "both", "-3", "3"), area("p0", "p0 + 2", "read")])
        p = (2, -2, -2)
        self.told((let("c", "0"), read("c", 0, "2")), rule, (p, {}, "forbidden", 1))
        self.told((read("c", 1, "a + 1"), read("c", 1, "-1")), rule, (p, {}, "forbidden", 1))
        self.told((write(1, "2", "c"),), rule, (p, {}, "forbidden", 0))
        self.told((read("c", 2, "0"),), rule, (p, {}, "forbidden", 0))
        self.told((let("c", "3"), write(0, "0", "c"), let("c", "4"), write(0, "0", "c")), rule, (p, {}, "forbidden", 3))
        self.told((let("c", "-4"), if_so(below("c"), (), [write(0, "0", "c")])), rule, (p, {}, "forbidden", 2))
        self.told((if_so(below("0"), (), [let("d", "1")], [let("d", "0"), read("d", 0, "a")]),), rule,
                  (p, {}, "forbidden", 3))
        self.told((while_so(below("d - a"), ("-d + 1",), let("d", "d + 1")),), rule, (p, {}, "keep", 0))
        self.told((let("b", "1"), if_so(below("a"), ("a - 3",), ())), rule, (p, {}, "keep", 1))
        self.told((if_so(below("a"), (), (), (), ("a - 2", "d - 1")),), rule, (p, {}, "behind", 0))
        self.told((let("d", "1"), let("d", "2")), Rule(given("p0 - 2"), [], claims("r3 - 2", "r0 - 3")), (p, {}, "ends", 2))

    def test_what_is_broken_first(self):
        rule = Rule([], [], claims("-1"))
        p = (-2, -2, -2)
        self.told((read("a", 0, "0"), if_so(below("0"), ("-1",), (), (), ("-1",))), rule, (p, {}, "forbidden", 0))
        self.told((if_so(below("0"), ("-1",), [read("a", 0, "0")], (), ("-1",)),), rule, (p, {}, "keep", 0))
        self.told((if_so(below("-1"), (), [read("a", 0, "0")], (), ("-1",)),), rule, (p, {}, "forbidden", 1))
        self.told((if_so(below("1"), (), [read("a", 0, "0")], (), ("-1",)),), rule, (p, {}, "behind", 0))

    def test_the_memory_that_is_tried(self):
        first = area("0", "2", "both", "-1", "1")
        above, under = area("5", "7", "both", "3", "8"), area("10", "12", "read", "-9", "-4")
        free = area("20", "22", "both")
        fails = (read("d", 1, "5"), let("d", "d - 4"))
        rule = Rule([], [first, above, under], claims("r3"))
        self.told(fails, rule, ((-2, -2, -2), {5: 3, 6: 3, 10: -9, 11: -9}, "ends", 2))
        self.told((read("d", 2, "11"), let("d", "d + 8")), rule,
                  ((-2, -2, -2), {5: 3, 6: 3, 10: -9, 11: -9}, "ends", 2))
        self.told((read("d", 0, "1"), let("d", "d - 1")), Rule([], [first, free], claims("r3")), ((-2, -2, -2), {}, "ends", 2))
        hung = Rule(given("p0 + 1"), [area("p0", "p0 + 1", "both", "p1", "p1 + 1")], claims("p1 - 1"))
        self.told((), hung, ((-1, -2, -2), {-1: -2}, "ends", 0))
        self.told((), Rule(given("p0 + 1", "p1 + 1"), hung.areas, claims("p1 - 1")), ((-1, -1, -2), {}, "ends", 0))
        # What is written isn't told: the memory is the start's.
        self.told((let("d", "4"), write(0, "5", "d")), Rule([], [above], claims("-1")),
                  ((-2, -2, -2), {5: 3, 6: 3}, "ends", 2))
        empty = Rule([], [area("5", "5", "both", "3", "8")], claims("-1"))
        self.told((), empty, ((-2, -2, -2), {}, "ends", 0))

    def test_what_is_no_start(self):
        self.told((), Rule(given("-1"), [], claims("-1")), None)
        self.told((), Rule([], [area("0", "401", "read")], claims("-1")), None)
        self.told((), Rule([], [area("0", "400", "read")], claims("-1")), ((-2, -2, -2), {}, "ends", 0))
        self.told((), Rule([], [area("0", "401", "read", "0", "1")], claims("-1")), None)
        self.told((), Rule([], [area("0", "400 + p0", "read", "1", "1")], claims("-p0 + 1")), None)
        self.told((), Rule([], [area("0", "400 + p0", "read", "1", "1")], claims("-p0 - 1")),
                  ((0, -2, -2), {place: 1 for place in range(400)}, "ends", 0))
        self.told((), Rule([], [area("0", str(10 ** 60), "both")], claims("-1")), None)
        self.told((), Rule([], [area("0", str(10 ** 60), "both", "1", "2")], claims("-1")), None)
        self.told((), Rule([], [area("3", "1", "both")], claims("-1")), None)
        self.told((), Rule([], [area("1", "3", "both", "2", "1")], claims("-1")), None)
        # Numbers of the memory go up to a million, as its places do.
        for low, word in (("1000000", "ends"), ("1000001", None)):
            told = counter((), Rule([], [area("7", "8", "both", low, low)], claims("-1")))
            self.assertEqual(told and told[2], word)
        for first, word in ((999999, "ends"), (1000000, None), (-1000000, "ends"), (-1000001, None)):
            rule = Rule([], [area(str(first), str(first + 2), "both", "1", "1")], claims("-1"))
            told = counter((), rule)
            self.assertEqual(told and told[2], word)
        self.told((), Rule([], [area(str(10 ** 20), str(10 ** 20 + 1), "both", "-1", "1")], claims("-1")),
                  ((-2, -2, -2), {}, "ends", 0))

    def test_budget(self):
        # Thirty times ten: the budget is used up just as the run comes to the last test.
        def counting(many):
            return (while_so(below("d - 1000"), (f"{many} - d",), let("d", "d + 1")),)
        self.told(counting(150), Rule(), None, reach=0)
        self.told(counting(149), Rule(), ((0, 0, 0), {}, "keep", 0), reach=0)
        self.told((while_so(below("-1"), ()), read("a", 0, "0")), Rule(), None, reach=0)
        forever = while_so(below("-1"), ())
        self.told((let("a", "1"), forever, let("b", "1")), Rule([], [], claims("-1")), None, reach=1)
        # 299 are taken by the loop, and one more by a let or a read.
        loop = while_so(below("d - 149"), (), let("d", "d + 1"))
        wrong = Rule([], [], claims("-1"))
        self.told((loop,), wrong, ((0, 0, 0), {}, "ends", 2), reach=0)
        self.told((loop, let("d", "0")), wrong, ((0, 0, 0), {}, "ends", 3), reach=0)
        self.told((loop, let("d", "0"), let("d", "0")), wrong, None, reach=0)
        self.told((loop, read("d", 0, "0")), wrong, ((0, 0, 0), {}, "forbidden", 2), reach=0)
        self.told((loop, let("d", "0"), read("d", 0, "0")), wrong, None, reach=0)
        self.told((loop, let("d", "0"), if_so(below("1"), ("-1",), ())), wrong, ((0, 0, 0), {}, "keep", 3), reach=0)
        self.told((loop, if_so(below("1"), (), (), (), ("-1",))), wrong, ((0, 0, 0), {}, "behind", 2), reach=0)
        self.told((loop, if_so(below("1"), (), (), [let("a", "1")], ("-1",))), wrong, None, reach=0)

    def test_nothing_breaks(self):
        self.told((), Rule(), None)
        self.told((let("d", "a + b"),), Rule(given("p0", "p1"), [], claims("r3")), None)

    def test_refusals(self):
        wrong = Rule([], [], claims("r4"))
        for rule in (wrong, Rule([], [], claims("0", "p0 - 3*r5")), None, (), "rule"):
            with self.assertRaises(NoRule):
                counter((), rule, reach=9)
        with self.assertRaises(NoDeeds) as told:
            counter((let("a", "1"), None), wrong, reach=9)
        self.assertEqual(told.exception.at, 1)
        with self.assertRaises(NoDeeds):
            counter([], None, reach=None)
        with self.assertRaises(NoNumber):
            counter((read("a", 0, "0"),), Rule(), reach=5)

    def test_against_another_way(self):
        chance = random.Random(220)
        seen = {}
        for _ in range(250):
            rule, deeds, reach = by_chance.deed_rule(chance), by_chance.Deeds(chance, 8).all(), chance.choice((0, 1, 1, 2))
            told = counter(deeds, rule, reach=reach)
            self.assertEqual(told, expected(deeds, rule, reach))
            seen[told and told[2]] = seen.get(told and told[2], 0) + 1
        self.assertGreater(min(seen[word] for word in ("forbidden", "keep", "ends", None)), 5, seen)


if __name__ == "__main__":
    unittest.main()
