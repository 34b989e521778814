"""Trunks: what is known along rows from a beginning on, by forms that are put into whole numbers."""

from paperrows.errors import NoArea
from paperrows.fields import Fields, bits_of
from paperrows.kinds import furthest

# A trunk's forms tell a constant, p0 to p2, v0 to v5, and then a worth for each of its reads.
FIRST_V = 4
FIRST_U = 10

# The sorts of wants: of reads and writes, of ways to told places, and of stops.
PLACE_SORTS = ("first", "end", "low", "high")
WAY_SORTS = ("claim", "claim", "claim", "claim", "claim", "claim", "claim", "claim")
STOP_SORTS = ("ends", "ends", "ends", "ends", "ends", "ends")


class Ground:
    """Rows, claims and a rule, with the rule's forms as numbers: what all trunks stand on."""

    def __init__(self, rows, claims, rule):
        self.rows = rows
        self.told = claims
        self.ends = rule.ends
        self.beginnings = [0, *sorted(claims)]
        self.lengths = [FIRST_U + _reads_from(rows, claims, beginning) for beginning in self.beginnings]
        self.fields = Fields(bits_of(_furthest_along(rows, claims, rule)), max(self.lengths))
        fields = self.fields
        self.known = [fields.packed(fact) for fact in rule.facts()]
        self.areas = []
        for first, end, _, low, high in rule.areas:
            bounds = None if low is None else (fields.packed(low), fields.packed(high))
            self.areas.append((fields.packed(first), fields.packed(end) - 1, bounds))


class Group:
    """The wants of one row that have the same hints and unlikes: of a read, write or stop, or of a way.

    `target` is the place to which a way leads, None where it is no way; `leads` tells whether it is a way to t;
    `many` tells how many of the hints are the trunk's own; `sorts` has at least one for each goal; `worths` are 1,
    p0 to p2 and the registers.
    """

    def __init__(self, at, target, leads, hints, many, unlikes, goals, sorts, worths):
        self.at = at
        self.target = target
        self.leads = leads
        self.hints = hints
        self.many = many
        self.unlikes = unlikes
        self.goals = goals
        self.sorts = sorts
        self.worths = worths


class Trunk:
    """A walk along the rows from a beginning on, and the groups of wants that come on it, in turn."""

    def __init__(self, ground, beginning, length):
        self.ground = ground
        self.beginning = beginning
        self.length = length
        self.groups = []
        units = ground.fields.units
        self.worths = units[:FIRST_U] if beginning > 0 else [1, *units[1:4], *units[1:4], 0, 0, 0]
        self.hints = ground.known
        if beginning > 0:
            self.hints = self.hints + [led_by(claim, self.worths) for claim in ground.told[beginning]]
        self.unlikes = []
        self.reads = 0
        self.end = beginning

    def walk(self):
        """Go on from the beginning up to the trunk's last row."""
        rows, claims = self.ground.rows, self.ground.told
        while True:
            row = rows[self.end]
            self._do_row(row)
            if row[0] in ("jump", "stop"):
                return
            if self.end + 1 in claims:
                self._add_way(self.end + 1, False, [])
                return
            self.end += 1

    def _do_row(self, row):
        word = row[0]
        if word == "set":
            self.worths[FIRST_V + row[1]] = row[2]
        elif word == "below" or word == "same":
            self._do_test(row)
        elif word == "read":
            self._do_read(row)
        elif word == "write":
            place = self.worths[FIRST_V + row[1]] + row[2]
            self._add_place(place, row[4], self.worths[FIRST_V + row[3]])
        elif word == "jump":
            self._add_way(row[1], True, [])
        elif word == "stop":
            self._add(None, False, [], [led_by(end, self.worths) for end in self.ground.ends], STOP_SORTS)
        else:
            self._reckon(row)

    def _reckon(self, row):
        word, worths, one = row[0], self.worths, self.worths[FIRST_V + row[2]]
        if word == "copy":
            told = one
        elif word == "plus":
            told = one + worths[FIRST_V + row[3]]
        elif word == "minus":
            told = one - worths[FIRST_V + row[3]]
        elif word == "more":
            told = one + row[3]
        else:
            told = one * row[3]
        worths[FIRST_V + row[1]] = told

    def _do_test(self, row):
        difference = self.worths[FIRST_V + row[1]] - self.worths[FIRST_V + row[2]]
        # What a way to t gets isn't kept in the trunk.
        if row[0] == "below":
            self._add_way(row[3], True, [-1 - difference])
            self.hints = self.hints + [difference]
        else:
            self._add_way(row[3], True, [difference, -difference])
            self.unlikes = self.unlikes + [difference]

    def _do_read(self, row):
        self._add_place(self.worths[FIRST_V + row[2]] + row[3], row[4], None)
        held = self.ground.fields.units[FIRST_U + self.reads]
        self.reads += 1
        self.worths[FIRST_V + row[1]] = held
        bounds = self.ground.areas[row[4]][2]
        if bounds is not None:
            self.hints = self.hints + [held - bounds[0], bounds[1] - held]

    def _add_place(self, place, number, put):
        """Add what is wanted of a place of an area, and of the worth that is put there, None where it is read."""
        first, last, bounds = self.ground.areas[number]
        goals = [place - first, last - place]
        if put is not None and bounds is not None:
            goals = goals + [put - bounds[0], bounds[1] - put]
        self._add(None, False, [], goals, PLACE_SORTS)

    def _add_way(self, target, leads, further):
        goals = [led_by(claim, self.worths) for claim in self.ground.told[target]]
        self._add(target, leads, further, goals, WAY_SORTS)

    def _add(self, target, leads, further, goals, sorts):
        hints, many, worths = self.hints + further, len(self.hints), list(self.worths)
        self.groups.append(Group(self.end, target, leads, hints, many, self.unlikes, goals, sorts, worths))


def trunks_of(rows, claims, rule):
    """Tell the trunks of rows and claims in turn, the start's first, with all their wants; refuse areas that lack."""
    look_areas(rows, rule)
    ground = Ground(rows, claims, rule)
    told = [Trunk(ground, beginning, length) for beginning, length in zip(ground.beginnings, ground.lengths)]
    for trunk in told:
        trunk.walk()
    return told


def look_areas(rows, rule):
    """Refuse rows that read or write an area that a rule hasn't, or doesn't let them write."""
    many = len(rule.areas)
    for at, row in enumerate(rows):
        if row[0] not in ("read", "write"):
            continue
        if row[4] >= many or (row[0] == "write" and rule.areas[row[4]][2] == "read"):
            raise NoArea(at)


def led_by(form, worths):
    """Tell the number of a claim or an end where 1, p0 to p2 and the registers have these worths."""
    return sum([number * worth for number, worth in zip(form, worths)])


def _reads_from(rows, claims, beginning):
    """Tell how many rows of the trunk from a beginning on read."""
    at, many = beginning, 0
    while True:
        word = rows[at][0]
        if word == "read":
            many += 1
        at += 1
        if word in ("jump", "stop") or at in claims:
            return many


def _furthest_along(rows, claims, rule):
    """Tell a number that no number of a trunk's hints, unlikes and goals comes beyond, signs aside."""
    claimed = rule.furthest_number()
    for claim in [claim for place in claims for claim in claims[place]]:
        claimed = max(claimed, furthest(claim))
    held = 1
    for row in rows:
        word = row[0]
        if word in ("plus", "minus"):
            held *= 2
        elif word == "fold":
            held *= max(1, abs(row[3]))
        elif word == "set":
            held = max(held, abs(row[2]))
        elif word in ("more", "read"):
            held += abs(row[3])
        elif word == "write":
            held += abs(row[2])
    # A goal is a claim by at most ten worths, a difference one by two of them.
    return 10 * (claimed + 1) * (held + 1)
