"""Counters: small starts from which deeds break what they shall keep."""

from paperrows.deeds import Course, look_ends, steps_of
from paperrows.errors import NoNumber
from paperrows.kinds import is_between, is_number
from paperrows.rules import MOST_PLACES, areas_at, look_rule

MOST_REACH = 4
BUDGET = 300


def counter(deeds, rule, *, reach=2):
    """Tell the first start, with its memory, from which deeds break something, what, and at which deed; else None."""
    steps = steps_of(deeds)
    look_rule(rule)
    look_ends(rule)
    if not is_between(reach, 0, MOST_REACH):
        raise NoNumber("no reach from 0 to 4")
    span, facts = list(range(-reach, reach + 1)), rule.facts()
    for one in span:
        for other in span:
            for third in _thirds(facts, one, other, span):
                told = _tried(steps, rule, (one, other, third))
                if told is not None:
                    return told
    return None


def _thirds(facts, one, other, span):
    """Tell the worths of p2 by which all facts hold, where p0 and p1 have these."""
    told = span
    for constant, first, second, last in facts:
        ahead = constant + first * one + second * other
        if last != 0:
            told = [third for third in told if ahead + last * third >= 0]
        elif ahead < 0:
            return []
    return told


def _tried(steps, rule, p):
    """Tell the start with its memory, and what a run breaks first; None where it is no start, or breaks nothing."""
    areas = areas_at(rule, p)
    memory = _tried_memory(areas)
    if memory is None:
        return None
    word, deed = _broken(steps, rule, Course(steps.steps, areas, p, dict(memory), BUDGET), p)
    return None if word is None else (p, memory, word, deed)


def _tried_memory(areas):
    """Tell the memory that is tried with areas, None where no start has it."""
    told = {}
    for first, end, _, low, high in areas:
        if end - first > MOST_PLACES:
            return None
        if first == end or low is None or low <= 0 <= high:
            continue
        if not (is_number(first) and is_number(end - 1) and is_number(low)):
            return None
        for place in range(first, end):
            told[place] = low
    return told


def _broken(steps, rule, course, p):
    """Tell what a run breaks first, and the deed; None, and no deed, where it breaks nothing."""
    while True:
        word, deed = course.run(True)
        if word == "forbidden":
            return word, deed
        if word == "open":
            return None, None
        if word == "ended":
            return (None, None) if _all_hold(rule.ends, p, course.worths) else ("ends", steps.many)
        # The course stands behind the station.
        if not _all_hold(steps.steps[course.at - 1][2], p, course.worths):
            return word, deed


def _all_hold(forms, p, worths):
    one, other, third = p
    a, b, c, d = worths
    for form in forms:
        told = form[0] + form[1] * one + form[2] * other + form[3] * third
        if told + form[4] * a + form[5] * b + form[6] * c + form[7] * d < 0:
            return False
    return True
