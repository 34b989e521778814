"""Point 19: the text of a bundle, and the bundle of a text."""

import copy
import random
import unittest

from paperrows.bundles import Bundle
from paperrows.errors import NoPapers, NoText
from paperrows.forms import form_text
from paperrows.rules import Rule
from paperrows.texts import bundle_text, read_bundle

STOP = ("stop",)
NOUGHT = (0,) * 10
FORM = (-7, 1, 0, 0, -1, 0, 0, 0, 0, 12)
SUM = ("sum", 1, [0, 2])
NEVER = ("never", [3, 1])
FOUR_HUNDRED = 10 ** 400 - 1
EACH_WORD = (
    ("set", 0, -1000000), ("copy", 1, 2), ("plus", 3, 4, 5), ("minus", 5, 4, 3), ("more", 2, 1, 1000000), ("fold", 0, 0, 0),
    ("read", 1, 2, -3, 2), ("write", 3, 4, 5, 0), ("jump", 1), ("below", 0, 1, 2), ("same", 4, 5, 10), STOP,
)
EACH_WORD_LINES = (
    "rows 12", "set 0 -1000000", "copy 1 2", "plus 3 4 5", "minus 5 4 3", "more 2 1 1000000", "fold 0 0 0", "read 1 2 -3 2",
    "write 3 4 5 0", "jump 1", "below 0 1 2", "same 4 5 10", "stop",
)


def within(many, word="split", leaf=SUM):
    """A paper with so many splits or aparts within one another."""
    told = leaf
    for _ in range(many):
        told = (word, (0, 1) if word == "split" else 0, told, leaf)
    return told


def paper_line(paper):
    """The line of a paper in the text of a bundle that has it alone."""
    return bundle_text(Bundle((STOP,), {}, [paper])).split("\n")[-1]


def with_paper(line):
    return f"rows 1\nstop\nclaims 0\npapers 1\n{line}"


class TextTest(unittest.TestCase):

    def both(self, bundle, *lines):
        text = bundle_text(bundle)
        self.assertEqual(text, "\n".join(lines))
        told = read_bundle(text)
        self.assertIsInstance(told, Bundle)
        self.assertEqual(told, bundle)
        self.assertEqual(bundle_text(told), text)

    def test_no_claims_and_no_papers(self):
        self.both(Bundle((STOP,), {}), "rows 1", "stop", "claims 0", "papers 0")
        self.both(Bundle((STOP, STOP), {}), "rows 2", "stop", "stop", "claims 0", "papers 0")

    def test_each_word_of_a_row(self):
        claims = {1: [], 2: [], 10: []}
        self.both(Bundle(EACH_WORD, claims), *EACH_WORD_LINES, "claims 3", "at 1 0", "at 2 0", "at 10 0", "papers 0")

    def test_claims_rising(self):
        rows = (("jump", 2),) + (STOP,) * 10
        claims = {10: [NOUGHT], 2: [FORM, (5,) + (0,) * 9], 9: [], 1: [(0, 1, -1, 2, -2, 3, -3, 4, -4, 5)]}
        self.both(
            Bundle(rows, claims), "rows 11", "jump 2", *["stop"] * 10, "claims 4",
            "at 1 1", "p0 - p1 + 2*p2 - 2*r0 + 3*r1 - 3*r2 + 4*r3 - 4*r4 + 5*r5",
            "at 2 2", "p0 - r0 + 12*r5 - 7", "5", "at 9 0", "at 10 1", "0", "papers 0",
        )

    def test_papers(self):
        papers = [
            SUM, ("sum", 12, []), ("sum", 3, [7]), NEVER, ("never", []), ("never", [0]),
            ("split", (1, 0, -2), SUM, NEVER), ("split", (0,), ("never", []), ("sum", 1, [])), ("apart", 0, NEVER, SUM),
            ("apart", 15, ("never", []), ("never", [])),
        ]
        self.both(
            Bundle((STOP,), {}, papers), "rows 1", "stop", "claims 0", "papers 10",
            "sum 1 0 2", "sum 12", "sum 3 7", "never 3 1", "never", "never 0",
            "split (1 0 -2) sum 1 0 2 | never 3 1", "split (0) never | sum 1", "apart 0 never 3 1 | sum 1 0 2",
            "apart 15 never | never",
        )

    def test_papers_within_one_another(self):
        one, other = ("split", (-1, 5), SUM, NEVER), ("apart", 2, NEVER, ("never", []))
        papers = [("split", (3, 4), one, SUM), ("split", (3, 4), SUM, other), ("apart", 1, one, other),
                  ("apart", 0, ("split", (0, 0), other, one), ("apart", 9, SUM, one))]
        first, second = "(split (-1 5) sum 1 0 2 | never 3 1)", "(apart 2 never 3 1 | never)"
        self.both(
            Bundle((STOP,), {}, papers), "rows 1", "stop", "claims 0", "papers 4",
            f"split (3 4) {first} | sum 1 0 2", f"split (3 4) sum 1 0 2 | {second}", f"apart 1 {first} | {second}",
            f"apart 0 (split (0 0) {second} | {first}) | (apart 9 sum 1 0 2 | {first})",
        )

    def test_ten_within_one_another(self):
        for word in ("split", "apart"):
            bundle = Bundle((STOP,), {}, [within(10, word)])
            self.assertEqual(read_bundle(bundle_text(bundle)), bundle)
        self.assertEqual(paper_line(within(2, "apart")), "apart 0 (apart 0 sum 1 0 2 | sum 1 0 2) | sum 1 0 2")

    def test_ten_within_the_other_one(self):
        told = SUM
        for at in range(10):
            told = ("apart", at, NEVER, told)
        bundle = Bundle((STOP,), {}, [told, ("split", (1,), within(9), told[3])])
        self.assertEqual(read_bundle(bundle_text(bundle)), bundle)
        with self.assertRaises(NoText):
            read_bundle(with_paper(f"apart 0 never | ({paper_line(told)})"))

    def test_numbers_of_four_hundred_figures(self):
        claims = {1: [(FOUR_HUNDRED, -FOUR_HUNDRED) + (0,) * 7 + (-FOUR_HUNDRED,)]}
        papers = [
            ("sum", FOUR_HUNDRED, [FOUR_HUNDRED, 0]), ("never", [FOUR_HUNDRED]),
            ("split", (-FOUR_HUNDRED, FOUR_HUNDRED), SUM, ("apart", FOUR_HUNDRED, SUM, ("sum", FOUR_HUNDRED, []))),
        ]
        nines = "9" * 400
        self.both(
            Bundle((("jump", 1), STOP), claims, papers), "rows 2", "jump 1", "stop", "claims 1", "at 1 1",
            f"-{nines}*p0 - {nines}*r5 + {nines}", "papers 3", f"sum {nines} {nines} 0", f"never {nines}",
            f"split (-{nines} {nines}) sum 1 0 2 | (apart {nines} sum 1 0 2 | sum {nines})",
        )

    def test_three_hundred_rows(self):
        bundle = Bundle((("below", 0, 1, 299),) * 299 + (STOP,), {at: [FORM] * 8 for at in range(1, 300)}, [within(9)] * 20)
        self.assertEqual(read_bundle(bundle_text(bundle)), bundle)

    def test_many_kinds_of_papers(self):
        chance = random.Random(19)

        def paper(depth):
            word = chance.choice(["sum", "never", "split", "apart"] if depth else ["sum", "never"])
            weights = [chance.randrange(12) for _ in range(chance.randrange(4))]
            if word == "sum":
                return (word, chance.randrange(1, 12), weights)
            if word == "never":
                return (word, weights)
            first = tuple(chance.randrange(-12, 12) for _ in range(chance.randrange(1, 4)))
            return (word, first if word == "split" else chance.randrange(12), paper(depth - 1), paper(depth - 1))
        for _ in range(200):
            bundle = Bundle((STOP,), {}, [paper(4) for _ in range(chance.randrange(4))])
            self.assertEqual(read_bundle(bundle_text(bundle)), bundle)

    def test_by_names_and_nothing_is_changed(self):
        bundle = Bundle((("jump", 1), STOP), {1: [FORM]}, [SUM, within(2)])
        held = copy.deepcopy((bundle.rows, bundle.claims(), bundle.papers()))
        self.assertEqual(read_bundle(text=bundle_text(bundle=bundle)), bundle)
        self.assertEqual((bundle.rows, bundle.claims(), bundle.papers()), held)


class NoPapersTest(unittest.TestCase):

    def refused(self, papers, claims=()):
        with self.assertRaises(NoPapers):
            bundle_text(Bundle((("jump", 1), STOP), {1: list(claims)}, papers))

    def test_papers_that_are_none(self):
        for wrong in (
            None, True, 1, "", "sum 1", (), [], {}, ("sum",), ("sum", 0, []), ("sum", -1, []), ("sum", True, []),
            ("sum", 1, ()), ("sum", 1, [-1]), ("sum", 1, [True]), ["sum", 1, []], ("never",), ("never", ()), ("never", [], []),
            ("split", (), SUM, SUM), ("split", [1], SUM, SUM), ("split", (True,), SUM, SUM), ("split", (1,), SUM),
            ("split", (1,), SUM, None), ("split", (1,), list(SUM), SUM), ("apart", -1, SUM, SUM), ("apart", True, SUM, SUM),
            ("apart", 0, SUM, ("sum", 0, [])), ("or", 1, SUM, SUM), Rule(), Bundle((STOP,), {}), within(11), within(11, "apart"),
        ):
            with self.subTest(wrong=wrong):
                self.refused([wrong])
                self.refused([SUM, wrong, SUM])
                self.refused([("split", (1,), SUM, wrong)])

    def test_numbers_of_more_than_four_hundred_figures(self):
        for great in (FOUR_HUNDRED + 1, 10 ** 499):
            for paper in (
                ("sum", great, []), ("sum", 1, [great]), ("sum", 1, [0, 0, great]), ("never", [great]), ("never", [0, great]),
                ("split", (great,), SUM, SUM), ("split", (0, -great), SUM, SUM), ("split", (0,), SUM, ("sum", great, [])),
                ("apart", great, SUM, SUM), ("apart", 0, ("never", [great]), SUM),
            ):
                self.refused([paper])
                self.refused([SUM, paper])
            for number in (great, -great):
                for at in range(10):
                    self.refused([], [FORM, NOUGHT[:at] + (number,) + NOUGHT[at + 1:]])


class NoTextTest(unittest.TestCase):

    WHOLE = "rows 2\nbelow 0 1 1\nstop\nclaims 1\nat 1 2\nr0 - 2*r1 + 3\n-p0\npapers 3\nsum 2 1 0\n" \
            "split (1 -1) (apart 0 sum 1 | never 2) | never\nnever 12"

    def refused(self, text):
        with self.assertRaises(NoText):
            read_bundle(text)

    def test_the_whole_text_is_one(self):
        bundle = read_bundle(self.WHOLE)
        self.assertEqual(bundle.rows, (("below", 0, 1, 1), STOP))
        self.assertEqual(bundle.claims(), {1: [(3, 0, 0, 0, 1, -2, 0, 0, 0, 0), (0, -1) + (0,) * 8]})
        self.assertEqual(bundle.papers(), [
            ("sum", 2, [1, 0]), ("split", (1, -1), ("apart", 0, ("sum", 1, []), ("never", [2])), ("never", [])), ("never", [12]),
        ])
        self.assertEqual(bundle_text(bundle), self.WHOLE)

    def test_each_sign_left_out_or_twice(self):
        # Numbers may stay numbers where a figure, or a blank between two, goes or comes; else what is left is no text.
        for at, sign in enumerate(self.WHOLE):
            for text in (self.WHOLE[:at] + self.WHOLE[at + 1:], self.WHOLE[:at] + sign + self.WHOLE[at:]):
                if sign in "0123456789- " and self.is_text(text):
                    continue
                with self.subTest(text=text):
                    self.refused(text)

    def is_text(self, text):
        """Whether a text is that of another bundle."""
        try:
            return bundle_text(read_bundle(text)) == text
        except NoText:
            return False

    def test_each_sign_put_otherwise(self):
        for at, sign in enumerate(self.WHOLE):
            for other in " \n()|+-*az09%;\t~":
                text = self.WHOLE[:at] + other + self.WHOLE[at + 1:]
                if other == sign or (sign in "0123456789 -+p" and self.is_text(text)) or (sign == "r" and other == "p"):
                    continue
                with self.subTest(text=text):
                    self.refused(text)

    def test_blanks_and_line_feeds(self):
        lines = self.WHOLE.split("\n")
        for at, line in enumerate(lines):
            for other in (" " + line, line + " ", "\n" + line, line + "\n", line.replace(" ", "  ", 1) + " " * (" " not in line),
                          "\t" + line, line + "\r"):
                self.refused("\n".join(lines[:at] + [other] + lines[at + 1:]))
        self.refused(self.WHOLE + "\n")
        self.refused(self.WHOLE + "\n\n")
        self.refused("\n" + self.WHOLE)
        self.refused(self.WHOLE.replace("\n", "\r\n"))
        self.refused(self.WHOLE.replace("\n", ";"))

    def test_lines_left_out_twice_and_about(self):
        lines = self.WHOLE.split("\n")
        for at in range(len(lines)):
            self.refused("\n".join(lines[:at] + lines[at + 1:]))
            self.refused("\n".join(lines[:at] + [lines[at]] + lines[at:]))
            self.refused("\n".join(lines[:at]))
            for other in range(at):
                about = list(lines)
                about[at], about[other] = about[other], about[at]
                text = "\n".join(about)
                # Two claims or two papers may be changed about.
                if not {at, other} <= {5, 6} and not {at, other} <= {8, 9, 10}:
                    self.refused(text)

    def test_noughts_ahead_and_signs(self):
        for old, new in (
            ("rows 2", "rows 02"), ("rows 2", "rows +2"), ("claims 1", "claims 01"), ("at 1 2", "at 01 2"), ("at 1 2", "at 1 02"),
            ("papers 3", "papers 03"), ("papers 3", "papers -3"), ("below 0", "below 00"), ("below 0", "below -0"),
            ("sum 2", "sum 02"), ("sum 2 1 0", "sum 2 1 00"), ("sum 2 1 0", "sum 2 1 -0"), ("apart 0", "apart -0"),
            ("(1 -1)", "(01 -1)"), ("(1 -1)", "(1 -01)"), ("(1 -1)", "(+1 -1)"), ("(1 -1)", "(1 - 1)"), ("12", "1_2"), ("12", "012"),
            ("+ 3", "+ 03"), ("-p0", "- p0"), ("r0 - 2*r1", "1*r0 - 2*r1"), ("r0 - 2*r1 + 3", "3 + r0 - 2*r1"),
        ):
            with self.subTest(new=new):
                self.assertIn(old, self.WHOLE)
                self.refused(self.WHOLE.replace(old, new, 1))

    def test_wrong_counts(self):
        for old in ("rows 2", "claims 1", "at 1 2", "papers 3"):
            word = old[:-1]
            for many in ("0", "1", "2", "3", "4", "9", "", "-1", "x", "1 1", "9" * 100, "9" * 400, "9" * 401, "9" * 9000):
                if word + many != old:
                    self.refused(self.WHOLE.replace(old, word + many, 1))
        self.refused("rows 0\nclaims 0\npapers 0")
        self.refused("rows 1\nstop\nclaims 0\npapers 0 0")

    def test_other_words(self):
        for old, new in (
            ("rows", "row"), ("rows", "Rows"), ("claims", "claim"), ("at", "in"), ("papers", "paper"), ("below", "Below"),
            ("below", "above"), ("stop", "halt"), ("stop", "stop 0"), ("sum", "Sum"), ("sum", "total"), ("never", "ever"),
            ("split", "apart"), ("apart", "split"), ("|", "/"), ("|", "||"), ("|", ""), (" |", ""), ("r1", "r6"), ("p0", "p3"),
        ):
            with self.subTest(new=new):
                self.refused(self.WHOLE.replace(old, new, 1))
        self.refused(self.WHOLE.upper())

    def test_brackets(self):
        self.assertEqual(paper_line(read_bundle(with_paper("split (0) never | never")).papers()[0]), "split (0) never | never")
        for line in (
            "split 0 never | never", "split (0 never | never", "split 0) never | never", "split ((0)) never | never",
            "split () never | never", "split (0) (never) | never", "split (0) never | (never)", "(split (0) never | never)",
            "(never)", "never)", "(never", "split (0) never | never)", "(sum 1)", "split ( 0) never | never",
            "split (0 ) never | never", "split(0) never | never", "split (0)never | never", "split (0) never|never",
            "split (0) apart 0 never | never | never", "split (0) never | apart 0 never | never",
            "apart (0) never | never", "apart 0 ((apart 0 never | never)) | never", "apart 0 (apart 0 never | never | never",
            "apart 0 apart 0 never | never) | never", "apart 0 ( apart 0 never | never) | never",
            "apart 0 (apart 0 never | never ) | never", "apart 0 never", "apart 0 never |", "apart 0 | never", "apart 0",
            "apart", "split", "split (0)", "apart never | never", "apart 0 1 never | never", "sum", "sum 0", "sum -1", "sum 1 -1",
            "never -1", "sum 1 | sum 1", "|", "", " ", "()", "sum (1)", "sum x", "never x", "never never", "apart -1 never | never",
        ):
            with self.subTest(line=line):
                self.refused(with_paper(line))

    def test_places_that_do_not_rise(self):
        begin = "rows 3\nstop\nstop\nstop\n"
        self.assertEqual(read_bundle(begin + "claims 2\nat 1 0\nat 2 0\npapers 0").claims(), {1: [], 2: []})
        for claims in ("claims 2\nat 2 0\nat 1 0", "claims 2\nat 1 0\nat 1 0", "claims 1\nat 1 0\nat 1 0", "claims 2\nat 1 0",
                       "claims 2\nat 1 1\n0\nat 1 1\n0", "claims 2\nat 1 0\nat 2"):
            self.refused(begin + claims + "\npapers 0")

    def test_rows_that_are_none(self):
        for row in ("", "set 0", "set 6 0", "set 0 1000001", "set 0 0 0", "jump 0", "jump 1", "jump 2", "stop 1", "stop stop",
                    "fly 0 1", "read 0 0 0 3", "below 0 1 5", "0", "set 0 x", "set x 0", "set 0 " + "1" * 401, "('stop',)"):
            with self.subTest(row=row):
                self.refused(f"rows 1\n{row}\nclaims 0\npapers 0")
        self.refused("rows 1\nset 0 0\nclaims 0\npapers 0")
        self.refused("rows 2\nstop\nset 0 0\nclaims 0\npapers 0")

    def test_claims_that_are_none(self):
        begin = "rows 2\njump 1\nstop\n"
        self.assertEqual(read_bundle(begin + "claims 1\nat 1 8" + "\n0" * 8 + "\npapers 0").claims(), {1: [NOUGHT] * 8})
        for claims in ("claims 0", "claims 1\nat 0 0", "claims 1\nat 2 0", "claims 1\nat -1 0", "claims 1\nat 1 9" + "\n0" * 9,
                       "claims 1\nat 1 1\n", "claims 1\nat 1 1\nv0", "claims 1\nat 1 1\nr0 + p0", "claims 1\nat 1 1\n1 + 1",
                       "claims 1\nat 1 1\nr0 - r0", "claims 2\nat 0 0\nat 1 0", "claims 2\nat 1 0\nat 2 0", "claims 1\nat 1 -1"):
            with self.subTest(claims=claims):
                self.refused(begin + claims + "\npapers 0")

    def test_eleven_within_one_another(self):
        for word, begin in (("split", "split (0 1)"), ("apart", "apart 0")):
            line = paper_line(within(10, word))
            self.assertEqual(read_bundle(with_paper(line)).papers(), [within(10, word)])
            self.refused(with_paper(f"{begin} ({line}) | sum 1 0 2"))
            self.refused(with_paper(f"{begin} sum 1 0 2 | ({line})"))

    def test_thousands_of_brackets(self):
        many = 3000
        for line in ("(" * many, ")" * many, "(" * many + ")" * many, "split (0) (" * 1500, "apart 0 (" * 2000,
                     "apart 0 (" * 1000 + "never | never" + ") | never" * 1000, "split (" * 2000, "split (0) never | (" * 900,
                     "sum 1 " + "(" * many, "| " * many, "() " * many, "never " * many):
            self.refused(with_paper(line))
            self.refused(line)

    def test_thousands_of_rows(self):
        for many in (301, 3000):
            self.refused(f"rows {many}\n" + "stop\n" * many + "claims 0\npapers 0")
        self.refused("stop\n" * 3900)
        self.refused("\n" * 19000)

    def test_numbers_of_four_hundred_and_one_figures(self):
        for figures in ("1" + "0" * 400, "9" * 401, "9" * 499, "1" * 5000):
            for line in (f"sum {figures}", f"sum 1 {figures}", f"never {figures}", f"split ({figures}) never | never",
                         f"split (-{figures}) never | never", f"apart {figures} never | never"):
                self.refused(with_paper(line))
            for claim in (figures, f"-{figures}", f"{figures}*r0", f"r0 - {figures}"):
                self.refused(f"rows 2\njump 1\nstop\nclaims 1\nat 1 1\n{claim}\npapers 0")

    def test_things_that_are_no_texts(self):
        for thing in ("", " ", "\n", "x", None, True, 0, 1, (), [], {}, ["rows 1", "stop"], ("rows 1",), Rule(), Bundle((STOP,), {}),
                      [0] * 39000, "x" * 20000, "rows", "rows 1", "rows 1\nstop", "rows 1\nstop\nclaims 0"):
            with self.subTest(thing=thing):
                self.refused(thing)


if __name__ == "__main__":
    unittest.main()
