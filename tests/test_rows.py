"""Points 6 and 7: rows, the joins among them, and what a row reads and sets."""

import unittest

from paperrows.errors import NoRows
from paperrows.rows import joins, look_rows, reads, sets
from paperrows.rules import Rule

MOST = 1000000
STOP = ("stop",)

# The word, then what each part may be: d, a, b, s a register, n a number, g an area, t a row.
WORDS = {
    "set": "dn",
    "copy": "da",
    "plus": "dab",
    "minus": "dab",
    "more": "dan",
    "fold": "dan",
    "read": "dang",
    "write": "ansg",
    "jump": "t",
    "below": "abt",
    "same": "abt",
    "stop": "",
}
RIGHT = {"n": (-MOST, -1, 0, 1, MOST), "g": (0, 1, 2), "t": (1, 2, 3)}
BEYOND = {"n": (-MOST - 1, MOST + 1, 10 ** 59), "g": (-1, 3), "t": (-1, 0, 4, 10 ** 59)}
NO_NUMBERS = (True, False, None, "0", "", (0,), [], [0], {}, Rule())


def part(letter, table, registers):
    return table.get(letter, registers)


def plain_row(word):
    return (word,) + tuple([1 for _ in WORDS[word]])


def rows_with(row):
    """Four rows, of which the row at place 1 is handed in."""
    return (STOP, row, STOP, STOP)


class LookTest(unittest.TestCase):

    def refused(self, rows, at):
        for call in (look_rows, joins):
            with self.assertRaises(NoRows) as told:
                call(rows)
            self.assertEqual(told.exception.at, at)
            self.assertIs(type(told.exception.at), int)

    def test_right_rows_tell_nothing(self):
        self.assertIsNone(look_rows((STOP,)))
        self.assertIsNone(look_rows((("set", 0, 1), ("jump", 1))))

    def test_each_part_within_its_bounds(self):
        for word, letters in WORDS.items():
            for at, letter in enumerate(letters):
                for number in part(letter, RIGHT, range(6)):
                    row = list(plain_row(word))
                    row[1 + at] = number
                    with self.subTest(row=row):
                        self.assertIsNone(look_rows(rows_with(tuple(row))))

    def test_each_part_out_of_its_bounds(self):
        for word, letters in WORDS.items():
            for at, letter in enumerate(letters):
                for number in (*part(letter, BEYOND, (-1, 6)), *NO_NUMBERS):
                    row = list(plain_row(word))
                    row[1 + at] = number
                    with self.subTest(row=row):
                        self.refused(rows_with(tuple(row)), 1)

    def test_too_few_and_too_many_parts(self):
        for word in WORDS:
            row = plain_row(word)
            with self.subTest(word):
                self.refused(rows_with(row + (1,)), 1)
                self.refused(rows_with(row + (None,)), 1)
                self.refused(rows_with(row[:-1]), 1)
                self.refused(rows_with(list(row)), 1)

    def test_other_words(self):
        for row in ((), ("Stop",), ("halt",), ("",), (None,), (0,), (True,), ([],), ({},), (("stop",),), (["stop"],)):
            with self.subTest(row=row):
                self.refused(rows_with(row), 1)
        for row in (None, True, 0, "stop", "", [], ["stop"], {}, {"stop": 1}, (Rule(),), Rule()):
            with self.subTest(row=row):
                self.refused(rows_with(row), 1)

    def test_no_tuple_or_an_empty_one(self):
        for rows in ((), [], [STOP], None, True, False, 0, 7, "", "stop", {}, {0: STOP}, Rule()):
            with self.subTest(rows=rows):
                self.refused(rows, 0)

    def test_three_hundred_rows(self):
        self.assertIsNone(look_rows((("set", 0, 0),) * 299 + (STOP,)))
        self.refused((("set", 0, 0),) * 300 + (STOP,), 300)
        self.refused((STOP,) * 301, 300)
        self.refused((STOP,) * 5000, 300)
        self.refused((STOP,) * 300 + (None,), 300)

    def test_a_wrong_row_ahead_of_the_three_hundredth(self):
        self.refused((STOP,) * 299 + (None,) + (STOP,) * 5, 299)
        self.refused((STOP,) * 7 + (("set", 0, True),) + (STOP,) * 400, 7)

    def test_places_are_told_from_how_many_there_are(self):
        self.assertIsNone(look_rows((("jump", 299),) + (STOP,) * 299))
        self.refused((("jump", 300),) + (STOP,) * 299, 0)
        self.refused((("jump", 300),) + (STOP,) * 300, 300)
        self.refused((("jump", 301),) + (STOP,) * 300, 0)
        self.refused((("jump", 1),), 0)

    def test_the_last_one_is_no_end(self):
        for word in WORDS:
            with self.subTest(word):
                rows = (STOP, STOP, plain_row(word))
                if word in ("jump", "stop"):
                    self.assertIsNone(look_rows(rows))
                else:
                    self.refused(rows, 2)
        self.refused((("set", 0, 1),), 0)

    def test_the_first_of_several_wrong_things(self):
        self.refused((STOP, ("jump", 9), ("set", 6, 0), ("set", 0, 0)), 1)
        self.refused((STOP, STOP, ("set", 6, 0), ("set", 0, 0)), 2)
        self.refused((("set", 0, 0), ("jump", 0), None), 1)
        self.refused((("set", 0, 0), ("below", 0, 0, 3), ("set", 0, 0)), 1)


class JoinsTest(unittest.TestCase):

    def test_of_jump_below_and_same(self):
        self.assertEqual(joins((("jump", 2), STOP, STOP)), [2])
        self.assertEqual(joins((("below", 3, 4, 2), STOP, STOP)), [2])
        self.assertEqual(joins((("same", 3, 4, 2), STOP, STOP)), [2])

    def test_no_other_row_leads_on(self):
        rows = tuple([plain_row(word) for word in WORDS if word not in ("jump", "below", "same")])
        self.assertEqual(joins(rows), [])

    def test_once_and_rising(self):
        rows = (("jump", 10), ("same", 0, 1, 9), ("below", 2, 3, 2), ("jump", 9), ("below", 5, 5, 10)) + (STOP,) * 7
        self.assertEqual(joins(rows), [2, 9, 10])

    def test_of_rows_that_are_never_done(self):
        self.assertEqual(joins((STOP, ("jump", 1))), [1])

    def test_the_list_is_new_each_time(self):
        rows = (("jump", 1), STOP)
        joins(rows).append(5)
        self.assertEqual(joins(rows), [1])


class ReadsAndSetsTest(unittest.TestCase):

    CASES = (
        (("set", 3, 4), [], [3]),
        (("copy", 3, 4), [4], [3]),
        (("copy", 3, 3), [3], [3]),
        (("plus", 1, 5, 2), [2, 5], [1]),
        (("plus", 1, 2, 2), [2], [1]),
        (("minus", 0, 4, 3), [3, 4], [0]),
        (("minus", 4, 4, 4), [4], [4]),
        (("more", 5, 0, 3), [0], [5]),
        (("fold", 2, 1, 4), [1], [2]),
        (("read", 3, 4, 5, 2), [4], [3]),
        (("write", 4, 5, 1, 2), [1, 4], []),
        (("write", 0, 5, 3, 2), [0, 3], []),
        (("write", 3, 5, 3, 1), [3], []),
        (("jump", 2), [], []),
        (("below", 5, 3, 1), [3, 5], []),
        (("below", 3, 3, 1), [3], []),
        (("same", 2, 4, 5), [2, 4], []),
        (("same", 4, 2, 5), [2, 4], []),
        (("stop",), [], []),
    )

    def test_reads(self):
        for row, read, _ in self.CASES:
            with self.subTest(row=row):
                self.assertEqual(reads(row), read)

    def test_sets(self):
        for row, _, done in self.CASES:
            with self.subTest(row=row):
                self.assertEqual(sets(row), done)

    def test_the_lists_are_new_each_time(self):
        for row, read, done in self.CASES:
            reads(row).append(9)
            sets(row).append(9)
            self.assertEqual((reads(row), sets(row)), (read, done))


if __name__ == "__main__":
    unittest.main()
