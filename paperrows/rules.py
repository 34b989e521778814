"""Rules: how runs begin, which areas of the memory they may use, and what holds at their end."""

from paperrows.errors import NoRule
from paperrows.forms import less
from paperrows.kinds import are_forms, furthest, is_form_of, is_number, is_sequence

MOST_FORMS = 6
MOST_AREAS = 3
MOST_PLACES = 400
GIVEN_LENGTH = 4
END_LENGTH = 10


class Rule:
    """What begins a run, what its areas are, and what holds at its end."""

    def __init__(self, given=(), areas=(), ends=()):
        if not are_forms(given, MOST_FORMS, GIVEN_LENGTH):
            raise NoRule("given are no at most six forms of four numbers")
        if not is_sequence(areas) or len(areas) > MOST_AREAS or not all([_is_area(area) for area in areas]):
            raise NoRule("areas are no at most three areas")
        if not are_forms(ends, MOST_FORMS, END_LENGTH):
            raise NoRule("ends are no at most six forms of ten numbers")
        self.given = tuple(given)
        self.areas = tuple(areas)
        self.ends = tuple(ends)
        # Both are asked for at each start and each look, and never change.
        self._facts = _facts_of(self.given, self.areas)
        self._furthest = _furthest_of(self._facts, self.areas, self.ends)

    def __eq__(self, other):
        if not isinstance(other, Rule):
            return False
        return self.given == other.given and self.areas == other.areas and self.ends == other.ends

    def facts(self):
        """Tell the forms that hold at each start: what is given, and that the areas lie in their order."""
        return list(self._facts)

    def furthest_number(self):
        """Tell the greatest number of the rule's forms and facts, signs aside."""
        return self._furthest


def is_start(rule, p, memory):
    """Tell whether p0, p1, p2 and a memory are a start of a rule."""
    if not isinstance(rule, Rule) or not _are_numbers(p) or not isinstance(memory, dict):
        return False
    for place, held in memory.items():
        if not is_number(place) or not is_number(held):
            return False
    for fact in rule.facts():
        if _at(fact, p) < 0:
            return False
    return all([_area_begins(area, memory) for area in areas_at(rule, p)])


def look_rule(rule):
    """Refuse what is no rule."""
    if not isinstance(rule, Rule):
        raise NoRule("no rule")


def areas_at(rule, p):
    """Tell of each area its first place, its end, rights, low and high, where p0, p1, p2 have these worths."""
    return [_area_at(area, p) for area in rule.areas]


def may_read(areas, number, place):
    """Tell whether a place is one of the area with this number."""
    return number < len(areas) and areas[number][0] <= place < areas[number][1]


def may_write(areas, number, place, held):
    """Tell whether this worth may be put at a place of the area with this number."""
    if not may_read(areas, number, place):
        return False
    _, _, rights, low, high = areas[number]
    return rights == "both" and (low is None or low <= held <= high)


def _is_area(area):
    if not isinstance(area, tuple) or len(area) != 5:
        return False
    first, end, rights, low, high = area
    if not is_form_of(first, GIVEN_LENGTH) or not is_form_of(end, GIVEN_LENGTH) or rights not in ("read", "both"):
        return False
    if low is None and high is None:
        return True
    return is_form_of(low, GIVEN_LENGTH) and is_form_of(high, GIVEN_LENGTH)


def _are_numbers(p):
    if not is_sequence(p) or len(p) != 3:
        return False
    return is_number(p[0]) and is_number(p[1]) and is_number(p[2])


def _facts_of(given, areas):
    borders = [border for area in areas for border in area[:2]]
    order = [less(behind, ahead) for ahead, behind in zip(borders, borders[1:])]
    spans = [less(area[4], area[3]) for area in areas if area[3] is not None]
    return (*given, *order, *spans)


def _furthest_of(facts, areas, ends):
    forms = [*facts, *ends, *[form for area in areas for form in area if isinstance(form, tuple)]]
    return max([furthest(form) for form in forms], default=0)


def _area_at(area, p):
    first, end, rights, low, high = area
    if low is None:
        return _at(first, p), _at(end, p), rights, None, None
    return _at(first, p), _at(end, p), rights, _at(low, p), _at(high, p)


def _area_begins(area, memory):
    place, behind, _, low, high = area
    # Asked ahead of any walk over the places: there may be as many as the forms' numbers tell.
    if behind - place > MOST_PLACES:
        return False
    if low is None:
        return True
    for at in range(place, behind):
        if not low <= memory.get(at, 0) <= high:
            return False
    return True


def _at(form, p):
    return form[0] + form[1] * p[0] + form[2] * p[1] + form[3] * p[2]
