"""Texts of rules, and the rules of texts."""

from paperrows.errors import NoRule, NoText
from paperrows.forms import read_form, text_of
from paperrows.rules import Rule

START_NAMES = ("p0", "p1", "p2")
END_NAMES = ("p0", "p1", "p2", "r0", "r1", "r2", "r3", "r4", "r5")
NOTHING = "-"
RIGHTS = ("read", "both")


def rule_text(rule):
    """Tell the text of a rule: given, areas and ends."""
    given = [text_of(form, START_NAMES) for form in rule.given]
    areas = [_area_text(area) for area in rule.areas]
    ends = [text_of(form, END_NAMES) for form in rule.ends]
    return " / ".join([" , ".join(part) if len(part) > 0 else NOTHING for part in (given, areas, ends)])


def read_rule(text):
    """Tell the rule that has this text."""
    parts = text.split(" / ")
    if len(parts) != 3:
        raise NoText("not three parts")
    given, areas, ends = [[] if part == NOTHING else part.split(" , ") for part in parts]
    start_names, end_names = list(START_NAMES), list(END_NAMES)
    try:
        return Rule(
            [read_form(form, names=start_names) for form in given],
            [_read_area(area) for area in areas],
            [read_form(form, names=end_names) for form in ends],
        )
    except NoRule:
        raise NoText("a text of which no rule is made") from None


def _area_text(area):
    first, end, rights, low, high = area
    told = f"{text_of(first, START_NAMES)} to {text_of(end, START_NAMES)} {rights}"
    if low is None:
        return told
    return f"{told} {text_of(low, START_NAMES)} to {text_of(high, START_NAMES)}"


def _read_area(text):
    pieces = text.split(" to ")
    if len(pieces) not in (2, 3):
        raise NoText("no area")
    for rights in RIGHTS:
        end, found, low = f"{pieces[1]} ".partition(f" {rights} ")
        if found == "":
            continue
        if len(pieces) == 2 and low == "":
            return _read(pieces[0]), _read(end), rights, None, None
        if len(pieces) == 3:
            return _read(pieces[0]), _read(end), rights, _read(low.removesuffix(" ")), _read(pieces[2])
    raise NoText("no area")


def _read(text):
    return read_form(text, names=list(START_NAMES))
