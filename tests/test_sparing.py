"""Points 23 and 24: rows whose register nobody reads are left out."""

import random

import chance as by_chance
import reference
from by_text import area, claims, given
from paperrows.bundles import Bundle
from paperrows.finder import shown
from paperrows.rows import reads, sets
from paperrows.rules import Rule
from paperrows.sparing import spared
from pass_checks import STOP, PassTest

RECKONS = ("set", "copy", "plus", "minus", "more", "fold")


def is_read_behind(rows, told_claims, rule, at, register):
    """Whether what a register holds behind a row is read, on some way."""
    seen, ahead = set(), reference.ways_on(rows, at)
    while ahead:
        place = ahead.pop()
        if place in seen:
            continue
        seen.add(place)
        row = rows[place]
        forms = told_claims.get(place, []) + (list(rule.ends) if row == STOP else [])
        if register in reads(row) or any(form[4 + register] for form in forms):
            return True
        if register not in sets(row):
            ahead += reference.ways_on(rows, place)
    return False


def expected(rows, told_claims, rule):
    """Rows and claims that are left when the last such row goes, again and again."""
    for at in range(len(rows) - 1, -1, -1):
        stays = at + 1 in told_claims and (at == 0 or at in told_claims)
        if rows[at][0] in RECKONS and not stays and not is_read_behind(rows, told_claims, rule, at, rows[at][1]):
            def new(place):
                return place - (place > at)
            left = tuple((*row[:-1], new(row[-1])) if row[0] in by_chance.LEADS else row
                         for place, row in enumerate(rows) if place != at)
            return expected(left, {new(place): told_claims[place] for place in told_claims}, rule)
    return rows, told_claims


class SparedTest(PassTest):

    def spared(self, rows, told_claims, rule=Rule()):
        bundle = shown(rows, told_claims, rule)
        told = self.passed(spared, bundle, rule)
        self.assertEqual((told.rows, told.claims()), expected(rows, told_claims, rule))
        self.assertEqual(told.papers(), bundle.papers())
        self.assertEqual(spared(told, rule), told)
        return told

    def stays(self, rows, told_claims, rule=Rule()):
        self.assertEqual(self.spared(rows, told_claims, rule).rows, rows)

    def test_each_word(self):
        for row in (("set", 3, 5), ("copy", 3, 0), ("plus", 3, 0, 1), ("minus", 3, 0, 1), ("more", 3, 0, 4), ("fold", 3, 0, 4),
                    ("more", 3, 3, 1), ("set", 0, 5)):
            told = self.spared((("set", 4, 1), row, ("below", 4, 1, 3), STOP), {3: []})
            self.assertEqual(told.rows, (("set", 4, 1), ("below", 4, 1, 2), STOP))
            self.assertEqual(told.claims(), {2: []})
            self.stays((row, ("below", row[1], 1, 3), STOP, STOP), {3: []})

    def test_others_stay(self):
        rule = Rule(given("p0"), [area("0", "p0 + 3", "both")])
        self.stays((("read", 3, 0, 0, 0), ("write", 0, 1, 4, 0), ("same", 0, 0, 3), STOP), {3: []}, rule)

    def test_read_by_a_row_by_a_claim_by_an_end(self):
        rule = Rule(given("p0"), [area("0", "p0 + 9", "both")])
        for reader in (("copy", 4, 3), ("plus", 4, 3, 1), ("minus", 4, 1, 3), ("more", 4, 3, 1), ("fold", 4, 3, 0),
                       ("same", 0, 3, 5), ("below", 3, 0, 5), ("read", 4, 3, 1, 0), ("write", 3, 1, 0, 0),
                       ("write", 0, 0, 3, 0)):
            self.stays((("set", 3, 2), reader, ("below", 4, 0, 5), ("below", 1, 4, 5), STOP, STOP), {5: []}, rule)
        self.stays((("set", 3, 2), ("set", 4, 3), ("jump", 3), STOP), {3: claims("r3 - 1", "r4 - 3")})
        self.stays((("set", 3, 2), STOP), {}, Rule([], [], claims("r3 - 1")))
        self.stays((("set", 3, 2), ("jump", 2), STOP), {2: claims("r3 - 1")}, Rule([], [], claims("r3 - 1")))

    def test_claims_and_ends_with_nought(self):
        self.assertEqual(self.spared((("set", 3, 2), ("jump", 2), STOP), {2: claims("r4", "1")}).rows, (("jump", 1), STOP))
        self.assertEqual(self.spared((("set", 3, 2), STOP), {}, Rule([], [], claims("r4", "p0 - p0"))).rows, (STOP,))
        # A row reads its registers though it may take one of them no times.
        self.stays((("set", 3, 2), ("fold", 4, 3, 0), STOP), {}, Rule([], [], claims("r4")))

    def test_set_again_ahead_of_each_read(self):
        told = self.spared((("set", 3, 1), ("set", 3, 2), ("copy", 4, 3), STOP), {}, Rule([], [], claims("r4 - 2")))
        self.assertEqual(told.rows, (("set", 3, 2), ("copy", 4, 3), STOP))
        told = self.spared((("set", 3, 1), ("more", 3, 3, 2), STOP), {}, Rule([], [], claims("r3 - 3")))
        self.assertEqual(len(told), 3)
        ends = Rule([], [], claims("r3 - 1"))
        both = (("set", 3, 1), ("below", 0, 1, 4), ("set", 3, 1), STOP, ("set", 3, 2), STOP)
        self.assertEqual(len(self.spared(both, {4: []}, ends)), 5)
        on_one = (("set", 3, 1), ("below", 0, 1, 4), ("set", 3, 1), STOP, ("set", 4, 2), STOP)
        self.assertEqual(self.spared(on_one, {4: claims("r3 - 1")}, ends).rows,
                         (("set", 3, 1), ("below", 0, 1, 4), ("set", 3, 1), STOP, STOP))
        self.assertEqual(self.spared((("set", 3, 1), ("below", 0, 1, 4), ("set", 3, 1), STOP, STOP), {4: claims("r3 - 1")},
                                     Rule([], [], claims("0"))).rows, (("set", 3, 1), ("below", 0, 1, 3), STOP, STOP))

    def test_chains_that_are_read_by_one_another_alone(self):
        rows = (("set", 3, 1), ("copy", 4, 3), ("plus", 5, 4, 3), ("fold", 5, 5, 2), ("minus", 3, 5, 4), STOP)
        self.assertEqual(self.spared(rows, {}).rows, (STOP,))
        # A loop in which a row reads what it set itself, the last time round.
        self.stays((("set", 3, 0), ("more", 3, 3, 1), ("below", 0, 1, 1), STOP), {1: []})

    def test_read_only_behind_a_way_back(self):
        # What the row 3 sets is read by the row 2, to which the way leads over the rows 4 and 1.
        self.stays((("set", 3, 0), ("set", 4, 1), ("below", 3, 4, 5), ("more", 3, 0, 1), ("jump", 1), STOP), {1: [], 5: []})
        # And here over two of them, each behind the other one.
        self.stays((("jump", 7), ("below", 3, 0, 6), STOP, ("set", 3, 1), ("jump", 5), ("jump", 1), STOP, ("jump", 3)),
                   {at: [] for at in (1, 3, 5, 6, 7)})

    def test_a_beginning_ahead_of_a_told_place_stays(self):
        self.stays((("set", 3, 1), STOP), {1: []})
        told = self.spared((("below", 0, 1, 2), STOP, ("set", 3, 1), STOP), {2: [], 3: claims("1")})
        self.assertEqual(len(told), 4)
        # Two rows ahead of it: the last one goes first, then the beginning is the one that stays.
        told = self.spared((("set", 3, 1), ("set", 4, 1), STOP), {2: []})
        self.assertEqual((told.rows, told.claims()), ((("set", 3, 1), STOP), {1: []}))
        told = self.spared((("jump", 1), ("set", 3, 1), ("set", 4, 1), STOP), {1: [], 3: []})
        self.assertEqual((told.rows, told.claims()), ((("jump", 1), ("set", 3, 1), STOP), {1: [], 2: []}))

    def test_at_a_told_place_and_ahead_of_one(self):
        told = self.spared((("below", 0, 1, 2), STOP, ("set", 3, 1), ("jump", 4), STOP), {2: claims("p1 - p0 - 1"), 4: []})
        self.assertEqual(told.rows, (("below", 0, 1, 2), STOP, ("jump", 3), STOP))
        self.assertEqual(told.claims(), {2: claims("p1 - p0 - 1"), 3: []})
        told = self.spared((("same", 0, 1, 3), ("set", 3, 1), ("set", 4, 1), STOP), {3: claims("1")})
        self.assertEqual((told.rows, told.claims()), ((("same", 0, 1, 1), STOP), {1: claims("1")}))

    def test_goals_and_told_places_by_the_new_places(self):
        rows = (("set", 3, 0), ("set", 4, 7), ("more", 3, 3, 1), ("set", 5, 7), ("below", 3, 0, 2), ("jump", 7), ("set", 5, 1), STOP)
        told = self.spared(rows, {2: claims("r3"), 7: claims("r3 - 1"), 6: claims("r3 - 4")})
        self.assertEqual(told.rows, (("set", 3, 0), ("more", 3, 3, 1), ("below", 3, 0, 1), ("jump", 5), ("set", 5, 1), STOP))
        self.assertEqual(told.claims(), {1: claims("r3"), 4: claims("r3 - 4"), 5: claims("r3 - 1")})

    def test_many(self):
        told = self.spared(tuple(("more", 3 + at % 3, 3, 1) for at in range(299)) + (STOP,), {})
        self.assertEqual(told.rows, (STOP,))

    def test_refusals(self):
        self.refused_as_others_are(spared)

    def test_by_chance(self):
        chance = random.Random(243)
        fewer = 0
        for _ in range(60):
            told = by_chance.rows_by_chance(chance, chance.choice((0.1, 0.3)), 14)
            if told is None:
                continue
            rows, told_claims, papers, rule, wanted = told
            papers = by_chance.Papers(chance, 2, 0.3).of(wanted)
            told = self.passed(spared, Bundle(rows, told_claims, papers), rule, most_starts=8)
            self.assertEqual((told.rows, told.claims()), expected(rows, told_claims, rule))
            self.assertEqual(told.papers(), papers)
            fewer += len(told) < len(rows)
        self.assertGreater(fewer, 15)


if __name__ == "__main__":
    import unittest
    unittest.main()
