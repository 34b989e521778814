"""Deeds: a small language over four names, and how its deeds are run."""

from paperrows.errors import NoDeeds, NoRule
from paperrows.kinds import are_forms
from paperrows.rules import areas_at
from paperrows.runs import begun_memory

PLACES = {"a": 0, "b": 1, "c": 2, "d": 3}
MOST_DEEDS = 20
MOST_WITHIN = 4
MOST_KEEPS = 4
MOST_NUMBER = 1000000
LAST_AREA = 2
SUM_LENGTH = 5
KEEP_LENGTH = 8


class Steps:
    """Deeds as steps one behind another, as they are read: tuples of a word, the deed's number, and what it needs.

    A `test` goes on to the step behind it where it is so, else to another one; a `jump` to another one; `keep` and
    `behind` are where the run comes to a test and where an if is over.
    """

    def __init__(self):
        self.steps = []
        self.many = 0

    def add_all(self, deeds, left):
        """Put deeds, with at most so many within one another, behind the steps; refuse what are none."""
        for deed in deeds:
            if self.many == MOST_DEEDS or left == 0 or not _is_deed(deed):
                raise NoDeeds(self.many)
            number = self.many
            self.many += 1
            if deed[0] == "let":
                self.steps.append(("let", number, PLACES[deed[1]], deed[2]))
            elif deed[0] == "read":
                self.steps.append(("read", number, PLACES[deed[1]], deed[3], deed[2]))
            elif deed[0] == "write":
                self.steps.append(("write", number, PLACES[deed[3]], deed[2], deed[1]))
            else:
                self._add_test(deed, number, left - 1)

    def _add_test(self, deed, number, left):
        word, (sort, form), keeps, deeds = deed[:4]
        self.steps.append(("keep", number, keeps))
        test = len(self.steps)
        self.steps.append(None)
        self.add_all(deeds, left)
        jump = len(self.steps)
        self.steps.append(("jump", number, test - 1))
        self.steps[test] = ("test", number, sort == "below", form, len(self.steps))
        if word == "if":
            self.add_all(deed[4], left)
            self.steps[jump] = ("jump", number, len(self.steps))
            self.steps.append(("behind", number, deed[5]))


class Course:
    """Steps that are being run: what the names and the memory hold, and how much of the budget is left."""

    def __init__(self, steps, areas, p, held, budget):
        self.steps = steps
        self.areas = areas
        self.worths = [*p, 0]
        self.held = held
        self.budget = budget
        self.at = 0

    def run(self, stations):
        """Run up to the end, or, where they are asked for, up to the next station: a `keep` or `behind`.

        Tell a word and a deed's number: `ended`, `open`, `forbidden` (the deed's), `keep` or `behind` (the place's).
        """
        steps, worths, at, left = self.steps, self.worths, self.at, self.budget
        deed = None
        while at < len(steps):
            step = steps[at]
            word = step[0]
            at += 1
            if word == "jump":
                at = step[2]
            elif word == "keep" or word == "behind":
                if stations:
                    deed = step[1]
                    break
            elif left == 0:
                word = "open"
                break
            else:
                left -= 1
                constant, a, b, c, d = step[3]
                told = constant + a * worths[0] + b * worths[1] + c * worths[2] + d * worths[3]
                if word == "let":
                    worths[step[2]] = told
                elif word == "test":
                    so = told < 0 if step[2] else told == 0
                    at = at if so else step[4]
                elif not self._is_done(word, step[2], told, step[4]):
                    word, deed = "forbidden", step[1]
                    break
        else:
            word = "ended"
        self.at, self.budget = at, left
        return word, deed

    def _is_done(self, word, name, place, number):
        """Do a read or write at a place of an area and tell True, or tell False where it is forbidden."""
        if number >= len(self.areas):
            return False
        first, end, rights, low, high = self.areas[number]
        if place < first or place >= end:
            return False
        if word == "read":
            self.worths[name] = self.held.get(place, 0)
            return True
        put = self.worths[name]
        if rights == "read" or (low is not None and not low <= put <= high):
            return False
        self.held[place] = put
        return True


def look_deeds(deeds):
    """Refuse what are no deeds."""
    steps_of(deeds)


def deeds_run(deeds, rule, p, *, memory=(), budget=300):
    """Run deeds from a start on: tell a word, the worths of the names, the memory, and the deed that is forbidden."""
    steps = steps_of(deeds).steps
    held = begun_memory(rule, p, memory, budget)
    course = Course(steps, areas_at(rule, p), p, held, budget)
    word, number = course.run(False)
    return word, tuple(course.worths), held, number


def steps_of(deeds):
    """Tell the steps of deeds; refuse what are none."""
    if not isinstance(deeds, tuple):
        raise NoDeeds(0)
    told = Steps()
    told.add_all(deeds, MOST_WITHIN)
    return told


def how_many(deed):
    """Tell how many deeds there are in a deed, itself counted."""
    if deed[0] == "while":
        return 1 + sum([how_many(inner) for inner in deed[3]])
    if deed[0] == "if":
        return 1 + sum([how_many(inner) for inner in (*deed[3], *deed[4])])
    return 1


def look_ends(rule):
    """Refuse a rule with ends of registers that hold no name."""
    for end in rule.ends:
        if end[-2] != 0 or end[-1] != 0:
            raise NoRule("an end of a register without a name")


def _is_deed(thing):
    """Tell whether a thing is a deed, whatever stands in the tuples of its inner deeds."""
    if not isinstance(thing, tuple) or len(thing) == 0:
        return False
    # Of anything, a word may stand there that is no text: it is compared, never looked for.
    word, many = thing[0], len(thing)
    if word == "let":
        return many == 3 and _is_name(thing[1]) and _is_sum(thing[2])
    if word == "read":
        return many == 4 and _is_name(thing[1]) and _is_area(thing[2]) and _is_sum(thing[3])
    if word == "write":
        return many == 4 and _is_area(thing[1]) and _is_sum(thing[2]) and _is_name(thing[3])
    if word == "while":
        return many == 4 and _is_test(thing[1]) and _are_keeps(thing[2]) and isinstance(thing[3], tuple)
    if word != "if" or many != 6 or not _is_test(thing[1]) or not _are_keeps(thing[2]):
        return False
    return isinstance(thing[3], tuple) and isinstance(thing[4], tuple) and _are_keeps(thing[5])


def _is_name(thing):
    return isinstance(thing, str) and thing in PLACES


def _is_area(thing):
    return type(thing) is int and 0 <= thing <= LAST_AREA


def _are_keeps(things):
    return isinstance(things, list) and are_forms(things, MOST_KEEPS, KEEP_LENGTH)


def _is_sum(thing):
    if not isinstance(thing, tuple) or len(thing) != SUM_LENGTH:
        return False
    for number in thing:
        if type(number) is not int or number > MOST_NUMBER or number < -MOST_NUMBER:
            return False
    return True


def _is_test(thing):
    return isinstance(thing, tuple) and len(thing) == 2 and thing[0] in ("below", "same") and _is_sum(thing[1])
