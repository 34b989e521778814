"""Deeds: a small language over four names, and how its deeds are run."""

from paperrows.errors import NoDeeds
from paperrows.forms import worth
from paperrows.kinds import are_forms, is_between, is_form, is_number
from paperrows.rows import LAST_AREA
from paperrows.rules import areas_at, may_read, may_write
from paperrows.runs import begun_memory

NAMES = ("a", "b", "c", "d")
MOST_DEEDS = 20
MOST_WITHIN = 4
MOST_KEEPS = 4
SUM_LENGTH = 5
KEEP_LENGTH = 8

# One letter for each part behind a deed's word: a name, an area, a sum, a test, keeps, or inner deeds.
PARTS = {
    "let": "xs",
    "read": "xgs",
    "write": "gsx",
    "if": "tkddk",
    "while": "tkd",
}


class Course:
    """Deeds that are being run: what the names and the memory hold, and how much of the budget is left."""

    def __init__(self, areas, p, held, budget):
        self.areas = areas
        self.worths = {"a": p[0], "b": p[1], "c": p[2], "d": 0}
        self.held = held
        self.left = budget

    def sum_here(self, form):
        """Tell what a sum of a, b, c, d comes to."""
        return worth(form, [self.worths[name] for name in NAMES])

    def test_here(self, test):
        """Tell whether a test is so."""
        told = self.sum_here(test[1])
        return told < 0 if test[0] == "below" else told == 0


def look_deeds(deeds):
    """Refuse what are no deeds."""
    if not isinstance(deeds, tuple):
        raise NoDeeds(0)
    _look_all(deeds, 0, MOST_WITHIN)


def deeds_run(deeds, rule, p, *, memory=(), budget=300):
    """Run deeds from a start on: tell a word, the worths of the names, the memory, and the deed that is forbidden."""
    look_deeds(deeds)
    held = begun_memory(rule, p, memory, budget)
    course = Course(areas_at(rule, p), p, held, budget)
    word, number = _run_all(deeds, 0, course) or ("ended", None)
    return word, tuple([course.worths[name] for name in NAMES]), course.held, number


def inner_deeds(deed):
    """Tell the tuples of deeds that stand in a deed."""
    return [part for letter, part in zip(PARTS[deed[0]], deed[1:]) if letter == "d"]


def how_many(deeds):
    """Tell how many deeds there are in all, those within one another too."""
    return len(deeds) + sum([how_many(inner) for deed in deeds for inner in inner_deeds(deed)])


def _look_all(deeds, number, left):
    """Look at deeds of which the first has this number; tell the number of the deed behind them."""
    for deed in deeds:
        if number == MOST_DEEDS or left == 0 or not _is_deed(deed):
            raise NoDeeds(number)
        number += 1
        for inner in inner_deeds(deed):
            number = _look_all(inner, number, left - 1)
    return number


def _is_deed(thing):
    """Tell whether a thing is a deed, whatever stands in the tuples of its inner deeds."""
    if not isinstance(thing, tuple) or len(thing) == 0:
        return False
    word = thing[0]
    # A list can't be looked for among the words of a dict.
    if not isinstance(word, str) or word not in PARTS or len(thing) != 1 + len(PARTS[word]):
        return False
    return all([_is_part(letter, part) for letter, part in zip(PARTS[word], thing[1:])])


def _is_part(letter, part):
    if letter == "x":
        return isinstance(part, str) and part in NAMES
    if letter == "g":
        return is_between(part, 0, LAST_AREA)
    if letter == "s":
        return _is_sum(part)
    if letter == "t":
        return _is_test(part)
    if letter == "k":
        return isinstance(part, list) and are_forms(part, MOST_KEEPS, KEEP_LENGTH)
    return isinstance(part, tuple)


def _is_sum(thing):
    return is_form(thing) and len(thing) == SUM_LENGTH and all([is_number(number) for number in thing])


def _is_test(thing):
    return isinstance(thing, tuple) and len(thing) == 2 and thing[0] in ("below", "same") and _is_sum(thing[1])


def _run_all(deeds, number, course):
    """Run deeds of which the first has this number; tell how the run ends among them, None if it goes on behind."""
    for deed in deeds:
        end = _run_deed(deed, number, course)
        if end is not None:
            return end
        number += how_many((deed,))
    return None


def _run_deed(deed, number, course):
    if deed[0] == "while":
        return _run_while(deed, number, course)
    if course.left == 0:
        return "open", None
    if deed[0] == "if":
        return _run_if(deed, number, course)
    if _is_forbidden(deed, course):
        return "forbidden", number
    course.left -= 1
    if deed[0] == "let":
        course.worths[deed[1]] = course.sum_here(deed[2])
    elif deed[0] == "read":
        course.worths[deed[1]] = course.held.get(course.sum_here(deed[3]), 0)
    else:
        course.held[course.sum_here(deed[2])] = course.worths[deed[3]]
    return None


def _run_if(deed, number, course):
    _, test, _, deeds, others, _ = deed
    course.left -= 1
    if course.test_here(test):
        return _run_all(deeds, number + 1, course)
    return _run_all(others, number + 1 + how_many(deeds), course)


def _run_while(deed, number, course):
    _, test, _, deeds = deed
    while course.left > 0:
        course.left -= 1
        if not course.test_here(test):
            return None
        end = _run_all(deeds, number + 1, course)
        if end is not None:
            return end
    return "open", None


def _is_forbidden(deed, course):
    if deed[0] == "read":
        return not may_read(course.areas, deed[2], course.sum_here(deed[3]))
    if deed[0] == "write":
        return not may_write(course.areas, deed[1], course.sum_here(deed[2]), course.worths[deed[3]])
    return False
