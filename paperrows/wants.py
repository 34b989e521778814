"""Wants: all that must hold, of rows with claims, for a rule to be kept."""

from paperrows.errors import NoArea
from paperrows.forms import added, contrary, led, less, often
from paperrows.rows import look_claims
from paperrows.rules import look_rule

# A trunk's forms tell a constant, p0 to p2, v0 to v5, and then a worth for each of its reads.
FIRST_P = 1
FIRST_V = 4
FIRST_U = 10
REGISTERS = 6


class Trunk:
    """What is known at a place of a trunk, ahead of the row there: registers as forms, hints and unlikes."""

    def __init__(self, rule, length):
        self.areas = rule.areas
        self.ends = rule.ends
        self.length = length
        self.p = [self.unknown(FIRST_P + k) for k in range(3)]
        self.registers = self.p + [self.constant(0)] * 3
        self.hints = [self.lengthened(fact) for fact in rule.facts()]
        self.unlikes = []
        self.reads = 0

    def constant(self, number):
        """Tell the form that is this number."""
        return (number,) + (0,) * (self.length - 1)

    def unknown(self, at):
        """Tell the form that is the unknown with this place in a form."""
        return tuple([1 if place == at else 0 for place in range(self.length)])

    def lengthened(self, form):
        """Tell a form of p0, p1, p2 as a form of the trunk."""
        return form + (0,) * (self.length - len(form))

    def of_registers(self, form):
        """Tell a claim or an end as a form of the trunk."""
        return led(form, self.p + self.registers)

    def difference(self, one, other):
        """Tell one register less another one."""
        return less(self.registers[one], self.registers[other])

    def shifted(self, one, number):
        """Tell a register and a number."""
        return added(self.registers[one], self.constant(number))

    def begin_anew(self, claims):
        """Know of the registers nothing but a told place's claims."""
        self.registers = [self.unknown(FIRST_V + k) for k in range(REGISTERS)]
        self.hints = self.hints + [self.of_registers(claim) for claim in claims]

    def do_row(self, row):
        """Go on behind a row, to the next one."""
        word = row[0]
        if word == "below":
            self.hints.append(self.difference(row[1], row[2]))
        elif word == "same":
            self.unlikes.append(self.difference(row[1], row[2]))
        elif word == "read":
            self._do_read(row)
        elif word not in ("write", "jump", "stop"):
            self.registers[row[1]] = self._reckoned(row)

    def _do_read(self, row):
        held = self.unknown(FIRST_U + self.reads)
        self.reads += 1
        self.registers[row[1]] = held
        self.hints.extend(self.bounds(row[4], held))

    def _reckoned(self, row):
        word, first, last = row[0], row[2], row[-1]
        if word == "set":
            return self.constant(first)
        if word == "copy":
            return self.registers[first]
        if word == "plus":
            return added(self.registers[first], self.registers[last])
        if word == "minus":
            return self.difference(first, last)
        if word == "more":
            return self.shifted(first, last)
        return often(self.registers[first], last)

    def bounds(self, number, held):
        """Tell the forms that hold where a worth is from low to high of an area; none where it has neither."""
        _, _, _, low, high = self.areas[number]
        if low is None:
            return []
        return [less(held, self.lengthened(low)), less(self.lengthened(high), held)]

    def within(self, number, place):
        """Tell the forms that hold where a place is one of an area."""
        first, end = self.lengthened(self.areas[number][0]), self.lengthened(self.areas[number][1])
        return [less(place, first), less(added(end, self.constant(-1)), place)]

    def way_hints(self, row):
        """Tell the hints that stand on the way on which a jump, below or same leads."""
        if row[0] == "jump":
            return list(self.hints)
        difference = self.difference(row[1], row[2])
        # On the way to t of a below, what holds on the way on doesn't.
        found = [contrary(difference)] if row[0] == "below" else [difference, often(difference, -1)]
        return self.hints + found


def wants(rows, claims, rule):
    """Tell all that must hold, in turn: tuples of a row's place, a sort, hints, unlikes and a goal."""
    look_claims(rows, claims)
    look_rule(rule)
    _look_areas(rows, rule)
    told = []
    for beginning in [0, *sorted(claims)]:
        told.extend(_trunk_wants(rows, claims, rule, beginning))
    return told


def trunk_places(rows, claims, beginning):
    """Tell the places of the rows of the trunk that goes on from a beginning."""
    end = beginning
    while rows[end][0] not in ("jump", "stop") and end + 1 not in claims:
        end += 1
    return list(range(beginning, end + 1))


def trunk_at(rows, claims, rule, beginning):
    """Tell what is known at a beginning."""
    words = [rows[at][0] for at in trunk_places(rows, claims, beginning)]
    trunk = Trunk(rule, FIRST_U + words.count("read"))
    if beginning > 0:
        trunk.begin_anew(claims[beginning])
    return trunk


def _look_areas(rows, rule):
    for at, row in enumerate(rows):
        if row[0] not in ("read", "write"):
            continue
        if row[4] >= len(rule.areas) or (row[0] == "write" and rule.areas[row[4]][2] == "read"):
            raise NoArea(at)


def _trunk_wants(rows, claims, rule, beginning):
    trunk = trunk_at(rows, claims, rule, beginning)
    told = []
    for at in trunk_places(rows, claims, beginning):
        row = rows[at]
        told.extend([_want(at, sort, trunk.hints, trunk, goal) for sort, goal in _row_goals(trunk, row)])
        if row[0] in ("jump", "below", "same"):
            told.extend(_way_wants(at, trunk.way_hints(row), trunk, claims[row[-1]]))
        trunk.do_row(row)
        if row[0] not in ("jump", "stop") and at + 1 in claims:
            told.extend(_way_wants(at, trunk.hints, trunk, claims[at + 1]))
    return told


def _row_goals(trunk, row):
    """Tell what a read, a write or a stop wants: the sorts and the goals."""
    if row[0] == "stop":
        return [("ends", trunk.of_registers(end)) for end in trunk.ends]
    if row[0] == "read":
        return list(zip(("first", "end"), trunk.within(row[4], trunk.shifted(row[2], row[3]))))
    if row[0] == "write":
        goals = trunk.within(row[4], trunk.shifted(row[1], row[2])) + trunk.bounds(row[4], trunk.registers[row[3]])
        return list(zip(("first", "end", "low", "high"), goals))
    return []


def _way_wants(at, hints, trunk, claims):
    return [_want(at, "claim", hints, trunk, trunk.of_registers(claim)) for claim in claims]


def _want(at, sort, hints, trunk, goal):
    # Each want has lists of its own: what is done to those of one changes no other one.
    return at, sort, list(hints), list(trunk.unlikes), goal
