"""Points 27 and 28: the desk."""

import unittest

from by_text import area, claims, given
from paperrows.desk import Desk
from paperrows.errors import NoArea, NoName, NoPapers, NoPass, NoSaying, NoStart, NoText, Unlet, Unshown
from paperrows.finder import shown
from paperrows.passes import passed
from paperrows.rules import Rule
from paperrows.texts import bundle_text, read_bundle
from pass_checks import STOP

RULE_TEXT = "p0 , -p0 + 9 / 0 to p0 both -9 to 9 , p0 + 1 to 2*p0 + 3 read / -p0 + r0"
RULE = Rule(given("p0", "9 - p0"), [area("0", "p0", "both", "-9", "9"), area("p0 + 1", "2*p0 + 3", "read")], claims("r0 - p0"))
ROWS = (("below", 3, 0, 2), STOP, ("read", 4, 3, 0, 0), ("more", 3, 3, 1), ("below", 3, 0, 2), ("jump", 6), STOP)
CLAIMS = {2: claims("r3", "p0 - r3 - 1", "p0 - r0", "r0 - p0"), 6: claims("r0 - p0")}
BUNDLE = shown(ROWS, CLAIMS, RULE)
TEXT = bundle_text(BUNDLE).replace("\n", ";")
BARE = TEXT.partition(";papers")[0] + ";papers 0"


class DeskTest(unittest.TestCase):

    def setUp(self):
        self.desk = Desk()
        self.says(f"rule r {RULE_TEXT}", "ok")
        self.says(f"bundle b {TEXT}", "ok")

    def says(self, row, answer):
        self.assertEqual(self.desk.say(row), answer)

    def state(self):
        return {name: self.desk.say(f"show {name}") for name in self.desk.say("names").replace("-", "").split()}

    def refused(self, said, refusal, **fields):
        held = self.state()
        with self.assertRaises(refusal) as told:
            self.desk.say(said)
        self.assertIs(type(told.exception), refusal)
        for field, value in fields.items():
            self.assertEqual(getattr(told.exception, field), value)
        self.assertEqual(self.state(), held)


class RowsTest(DeskTest):

    def test_rules(self):
        self.says("show r", RULE_TEXT)
        for text in ("- / - / -", "1 / - / 0", "p0 , p1 , p2 , 0 , -1 , p0 - p1 / - / r5 , r4 , r3 , p0 + p1 + p2 + r0 + r1 + r2",
                     "- / 0 to 1 read / -", "- / 0 to 1 both , 1 to 2 read , 2 to 3 both -1 to 1 / -",
                     "- / p0 - 5 to p0 + 2*p1 - 3 read -p0 to p1 + p2 / -", "-7*p0 - p1 + 8 / - / -r0 - 12*r5 - 1",
                     "- / 0 to " + "9" * 400 + " both / -", "0 , 0 / 0 to 0 both 0 to 0 , 0 to 0 both / 0 , 0"):
            self.says(f"rule x {text}", "ok")
            self.says("show x", text)

    def test_texts_of_no_rule(self):
        for text in ("", " ", "-", "- / -", "- / - / - / -", "- / - / ", " / - / -", "-/-/-", "- / - / - ", " - / - / -", "p3 / - / -",
                     "r0 / - / -", "- / - / q", "p0,p1 / - / -", "p0 ,p1 / - / -", "p0 , / - / -", "p0 , - / - / -", "- , - / - / -",
                     "p1 + p0 / - / -", "1*p0 / - / -", "+p0 / - / -", "00 / - / -", "p0  , p1 / - / -", "- / 0 to 1 / -",
                     "- / 0 to 1 none / -", "- / 0 to 1 Read / -", "- / 0 read / -", "- / 0 to 1 read 0 / -", "- / 0 to 1 read to 2 / -",
                     "- / 0 to 1 read 0 to / -", "- / 0 to 1 read 0 to 2 both / -", "- / 0 to 1 to 2 read / -", "- / 0 to r0 read / -",
                     "- / 0 to 1 read 0 to 1 to 2 / -", "- / 0  to 1 read / -", "- / 0 to 1  read / -", "- / 0 to 1 read  0 to 1 / -",
                     "- / 0 to 1 read 0  to 1 / -", "- / 0 to 1 read  / -", "- / read / -", "- / 0 to 1 read , - / -", "- / - / -;",
                     "-;/ - / -", "- / 0 to 1 both both 0 to 1 / -", "- / 0 to 1 read both 0 to 1 / -",
                     "0 , 0 , 0 , 0 , 0 , 0 , 0 / - / -", "- / - / 0 , 0 , 0 , 0 , 0 , 0 , 0", "1" * 401 + " / - / -",
                     "- / 0 to 1 read , 0 to 1 read , 0 to 1 read , 0 to 1 read / -"):
            self.refused(f"rule x {text}", NoText)
            self.refused(f"rule r {text}", NoText)

    def test_bundles(self):
        self.says("show b", TEXT)
        self.says(f"bundle c {BARE}", "ok")
        self.says("show c", BARE)
        self.says("bundle d rows 1;stop;claims 0;papers 0", "ok")
        self.assertEqual(read_bundle(self.desk.say("show b").replace(";", "\n")), BUNDLE)
        for text in ("", " ", "rows 1", "rows 1;stop;claims 0;papers 0;", ";rows 1;stop;claims 0;papers 0", "rows 1,stop,claims 0,papers 0",
                     "rows 1; stop;claims 0;papers 0", "rows 1;jump 1;claims 0;papers 0", "rows 1;stop;claims 0;papers 1", RULE_TEXT):
            self.refused(f"bundle x {text}", NoText)

    def test_look(self):
        self.says("look b r", "right")
        self.says(f"bundle c {BARE}", "ok")
        self.says("look c r", "0 claim 0")
        many = len(BUNDLE.papers())
        self.says(f"bundle c {TEXT.replace(f'papers {many}', f'papers {many + 1}')};never", "ok")
        self.says("look c r", f"-1 more {many}")
        self.says("rule q p0 , -p0 + 9 / 0 to p0 read -9 to 9 / -p0 + r0 + 1", "ok")
        self.says("look b q", "0 claim 0")
        self.says("rule q p0 / - / -", "ok")
        self.refused("look b q", NoArea, at=2)

    def test_find(self):
        self.says(f"bundle c {BARE}", "ok")
        self.says("find d c r", "ok")
        self.says("show d", TEXT)
        self.says("look d r", "right")
        self.says("show c", BARE)
        self.says("find c c r", "ok")
        self.says("show c", TEXT)
        self.says("find r c r", "ok")
        self.refused("look c r", NoName, name="r")
        self.says("rule s - / 1 to p0 both / -", "ok")
        self.refused("find x c s", Unshown, row=2, kind="first", number=4)
        self.says("rule s - / - / -", "ok")
        self.refused("find c c s", NoArea, at=2)

    def test_pass(self):
        for word, name in (("thinned", "t"), ("spared", "s"), ("led_on", "l"), ("surely", "y")):
            self.says(f"pass {name} b r {word}", "ok")
            expected = passed(BUNDLE, RULE, words=[word])
            self.says(f"show {name}", bundle_text(expected).replace("\n", ";"))
            self.says(f"look {name} r", "right")
        self.assertNotEqual(self.desk.say("show l"), TEXT)
        self.says("pass b b r led_on", "ok")
        for word in ("renamed", "x", "5", "Thinned", ";", "-", "thinned;"):
            self.refused(f"pass b b r {word}", NoPass, at=0)
        self.says(f"bundle c {BARE}", "ok")
        self.refused("pass d c r thinned", Unlet, row=0, kind="claim", number=0)
        self.refused("pass d c r x", Unlet, row=0, kind="claim", number=0)

    def test_run(self):
        self.says("run b r 3 0 0 100", "stopped 6 12")
        self.says("run b r 3 -1000000 1000000 20000", "stopped 6 12")
        self.says("run b r 0 0 0 100", "stopped 1 2")
        self.says("run b r 3 0 0 0", "open 0 0")
        self.says("run b r 3 0 0 2", "open 3 2")
        self.refused("run b r -1 0 0 100", NoStart)
        self.refused("run b r 10 0 0 100", NoStart)
        self.says("bundle c rows 2;read 4 3 -1 0;stop;claims 0;papers 0", "ok")
        self.says("run c r 1 0 0 5", "forbidden 0 0")
        self.says("rule w p0 - 4 , -p0 + 4 , p1 - 5 , -p1 + 5 , p2 + 6 , -p2 - 6 / - / -", "ok")
        self.says("bundle d rows 1;stop;claims 0;papers 0", "ok")
        self.says("run d w 4 5 -6 1", "stopped 0 1")
        for p in ("5 5 -6", "4 4 -6", "4 5 6", "5 4 -6", "-6 5 4", "4 -6 5"):
            self.refused(f"run d w {p} 1", NoStart)
        # The memory is empty, where an area may hold no noughts.
        self.says("rule q - / 0 to p0 both 1 to 2 / -", "ok")
        self.says("run b q 0 0 0 7", "stopped 1 2")
        self.refused("run b q 1 0 0 7", NoStart)

    def test_size(self):
        self.says("size b", str(BUNDLE.size()))
        self.says(f"bundle c {BARE}", "ok")
        self.says("size c", "0")
        self.says("bundle c rows 1;stop;claims 0;papers 2;split (1 2) (split (3) sum 1 | never 5) | sum 2 7;never 1", "ok")
        self.says("size c", "4")

    def test_show_of_what_has_no_text(self):
        # What is found may have longer weights than a text may have.
        great = "9" * 400
        self.says(f"rule w p0 - {great}*p1 , p1 - {great}*p2 , p2 / - / p0", "ok")
        self.says("bundle d rows 1;stop;claims 0;papers 0", "ok")
        self.says("find d d w", "ok")
        self.says("look d w", "right")
        with self.assertRaises(NoPapers):
            self.desk.say("show d")

    def test_drop_and_names(self):
        self.says("names", "b r")
        self.says("drop b", "ok")
        self.says("names", "r")
        self.refused("show b", NoName, name="b")
        self.refused("drop b", NoName, name="b")
        self.says("drop r", "ok")
        self.says("names", "-")
        for name in ("z", "a", "zz", "ab", "abcdefgh", "m"):
            self.says(f"rule {name} - / - / -", "ok")
        self.says("names", "a ab abcdefgh m z zz")

    def test_a_new_thing_by_an_elder_ones_name(self):
        self.says("rule b - / - / -", "ok")
        self.says("show b", "- / - / -")
        self.refused("look b r", NoName, name="b")
        self.says(f"bundle r {BARE}", "ok")
        self.says("show r", BARE)
        self.refused("look r b", NoArea, at=2)
        self.says(f"bundle r {TEXT}", "ok")
        self.says("show r", TEXT)
        self.says("names", "b r")

    def test_two_desks(self):
        other = Desk()
        self.assertEqual(other.say("names"), "-")
        other.say("rule r - / - / -")
        other.say("rule q - / - / -")
        self.says("names", "b r")
        self.says("show r", RULE_TEXT)
        self.says(row="drop r", answer="ok")
        self.assertEqual(other.say("names"), "q r")


class SayingsTest(DeskTest):

    RIGHT = ("look b r", "find x b r", "pass x b r spared", "run b r 1 2 3 4", "size b", "show b", "drop b", "names",
             "rule x - / - / -", f"bundle x {TEXT}")

    def test_counts_of_words(self):
        for row in self.RIGHT[:8]:
            self.refused(f"{row} b", NoSaying)
            if " " in row:
                self.refused(row.rpartition(" ")[0], NoSaying)
        for row in ("", "rule", "bundle", "rule x", "bundle x", "look", "find", "pass", "run", "size", "show", "drop"):
            self.refused(row, NoSaying)

    def test_blanks(self):
        for row in self.RIGHT:
            self.refused(f" {row}", NoSaying)
            if row[:4] not in ("rule", "bund"):
                self.refused(f"{row} ", NoSaying)
            if " " in row:
                self.refused(row.replace(" ", "  ", 1), NoSaying)
        self.refused("find x  b r", NoSaying)
        self.refused("pass x b r ", NoSaying)
        self.refused("pass x b  spared", NoSaying)
        self.refused(" ", NoSaying)
        # Two blanks behind the name: the text begins with one.
        self.refused("rule x  - / - / -", NoText)
        self.refused(f"bundle x  {TEXT}", NoText)

    def test_other_first_words(self):
        for row in ("Look b r", "looks b r", "rules x - / - / -", "x", "b", "-", "names;", "renamed b r", "say names"):
            self.refused(row, NoSaying)

    def test_line_feeds(self):
        for row in self.RIGHT:
            self.refused(row + "\n", NoSaying)
            self.refused("\n" + row, NoSaying)
        self.refused(f"bundle x {bundle_text(BUNDLE)}", NoSaying)

    def test_what_is_no_text(self):
        for thing in (None, True, 5, ["names"], ("names",), {"names": 1}, RULE, BUNDLE, []):
            self.refused(thing, NoSaying)

    def test_names(self):
        for name in ("a", "z", "abcdefgh", "zzzzzzzz", "names", "rule"):
            self.says(f"rule {name} - / - / -", "ok")
            self.says(f"show {name}", "- / - / -")
        for name in ("abcdefghi", "a1", "1", "A", "aB", "a-b", "", "a;", "a.", "-", "p0"):
            for row in (f"rule {name} - / - / -", f"bundle {name} {TEXT}", f"show {name}", f"drop {name}", f"size {name}",
                        f"look {name} r", f"look b {name}", f"find {name} b r", f"find x {name} r", f"find x b {name}",
                        f"pass {name} b r spared", f"run {name} r 1 2 3 4", f"run b {name} 1 2 3 4"):
                self.refused(row, NoSaying)

    def test_numbers(self):
        for number in ("0", "1", "9", "-1", "10", "1000000", "-1000000", "999999", "-999999"):
            self.says(f"run b r 0 {number} {number} 5", "stopped 1 2")
        for number in ("00", "01", "-0", "+1", "-01", "--1", "1.0", "1e3", "a", "-", "1_0", "1000001", "-1000001", "10000000", "9" * 60,
                       "0x1", "1-", "\u0661"):
            for row in (f"run b r {number} 0 0 5", f"run b r 0 {number} 0 5", f"run b r 0 0 {number} 5", f"run b r 0 0 0 {number}"):
                self.refused(row, NoSaying)
        for number in ("0", "20000", "7"):
            self.assertIn(self.desk.say(f"run b r 0 0 0 {number}"), ("open 0 0", "stopped 1 2"))
        for number in ("-1", "20001", "1000000"):
            self.refused(f"run b r 0 0 0 {number}", NoSaying)

    def test_texts_that_are_empty(self):
        for word in ("rule", "bundle"):
            self.refused(f"{word} x ", NoText)
            self.refused(f"{word} x", NoSaying)
            self.refused(f"{word} ", NoSaying)
            self.refused(f"{word}  ", NoSaying)

    def test_names_of_nothing(self):
        for row, name in (
            ("look x r", "x"), ("look b x", "x"), ("look x y", "x"), ("look r b", "r"), ("look r r", "r"), ("look b b", "b"),
            ("look x b", "x"), ("find n x r", "x"), ("find n b x", "x"), ("find n r b", "r"), ("find n x y", "x"),
            ("pass n x y spared", "x"), ("pass n b b spared", "b"), ("pass n r x none", "r"), ("run x y 1 2 3 4", "x"),
            ("run b b 1 2 3 4", "b"), ("run r r 1 2 3 4", "r"), ("size x", "x"), ("size r", "r"), ("show x", "x"), ("drop x", "x"),
        ):
            self.refused(row, NoName, name=name)

    def test_which_refusal_comes(self):
        self.refused("run x y 1 2 3 -4", NoSaying)
        self.refused("look X y", NoSaying)
        self.refused("pass n x y", NoSaying)
        self.refused("rule A 5", NoSaying)
        self.refused("rule x 5\n", NoSaying)
        self.refused("pass n x r none", NoName, name="x")
        self.refused("run b x -1 0 0 5", NoName, name="x")
        self.refused("run b r -1 0 0 5", NoStart)
        self.assertTrue(issubclass(NoName, KeyError))


if __name__ == "__main__":
    unittest.main()
