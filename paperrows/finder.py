"""The finder: papers of wants, and bundles with all their papers."""

from paperrows.bundles import bundle_of
from paperrows.corners import Corner, contradiction, parts_of
from paperrows.errors import Unshown
from paperrows.fields import Fields, bits_of
from paperrows.kinds import furthest
from paperrows.papers import MOST_WITHIN
from paperrows.rows import look_claims
from paperrows.rules import look_rule
from paperrows.trunks import trunks_of


class Hints:
    """Hints of a want, by what they tell of the unknowns, so that papers of one or two of them are found at once."""

    def __init__(self, fields):
        self.fields = fields
        self.many = 0
        # By the unknowns' part: the constant and the number of the hint that tells the most.
        self.best = {}
        self.against = ()

    def twin(self):
        """Tell the same hints, to which others are put."""
        other = Hints(self.fields)
        other.many = self.many
        other.best = dict(self.best)
        other.against = self.against
        return other

    def put(self, hint):
        """Put one hint more behind the others."""
        constant = self.fields.constant(hint)
        part, number = hint - constant, self.many
        self.many += 1
        known = self.best.get(part)
        if known is None or constant < known[0]:
            self.best[part] = (constant, number)
        if len(self.against) > 0:
            return
        other = self.best.get(-part)
        if other is not None and other[0] + constant < 0:
            self.against = (other[1], number) if part != 0 else (number,)

    def paper(self, goal):
        """Tell a paper by one or two hints that shows a goal, None where there is none."""
        if len(self.against) > 0:
            return "never", self._weights(self.against)
        constant = self.fields.constant(goal)
        part = goal - constant
        if part == 0 and constant >= 0:
            return "sum", 1, self._weights(())
        known = self.best.get(part)
        if known is not None and known[0] <= constant:
            return "sum", 1, self._weights((known[1],))
        for its_part, (its_constant, number) in self.best.items():
            known = self.best.get(part - its_part)
            if known is not None and known[0] + its_constant <= constant:
                return "sum", 1, self._weights((number, known[1]))
        return None

    def _weights(self, numbers):
        told = [0] * self.many
        for number in numbers:
            told[number] += 1
        return told


class Search:
    """The search for papers of wants with forms of the same length, whose hints are one another's with more behind."""

    def __init__(self, fields, length):
        self.fields = fields
        self.length = length
        self.along = Hints(fields)
        self.parts = {}

    def found(self, hints, many, unlikes, goals):
        """Tell a paper for each goal, None where none is found; the first so many hints stand for later goals, too."""
        if len(goals) == 0:
            return []
        for hint in hints[self.along.many:many]:
            self.along.put(hint)
        known = self.along
        if len(hints) > many:
            known = known.twin()
            for hint in hints[many:]:
                known.put(hint)
        return [known.paper(goal) or self._moved(known, hints, unlikes, goal) for goal in goals]

    def _moved(self, known, hints, unlikes, goal):
        # A goal is shown where its contrary and the hints never hold together.
        forms = [self._parts(hint) for hint in [-1 - goal, *hints]]
        return self._apart(Corner(self.length - 1), forms, known, unlikes, goal, 0)

    def _apart(self, corner, forms, known, unlikes, goal, done):
        """Tell a paper by forms, the goal's contrary first, where so many unlikes are taken apart already."""
        weights = contradiction(corner, forms)
        if weights is not None:
            return ("sum", weights[0], weights[1:]) if weights[0] > 0 else ("never", weights[1:])
        if done == min(len(unlikes), MOST_WITHIN):
            return None
        papers = []
        for further in self.fields.parted(unlikes[done]):
            more = known.twin()
            more.put(further)
            paper = more.paper(goal)
            if paper is None:
                # What was found out of fewer forms is gone on with: the corner has to move but a little.
                behind = forms + [self._parts(further)]
                paper = self._apart(corner.twin(), behind, more, unlikes, goal, done + 1)
            if paper is None:
                return None
            papers.append(paper)
        return "apart", done, papers[0], papers[1]

    def _parts(self, number):
        if number not in self.parts:
            self.parts[number] = parts_of(self.fields.unpacked(number, self.length))
        return self.parts[number]


def found(hints, unlikes, goal):
    """Tell a paper that shows a goal by hints and unlikes, None where none is found."""
    most = max([furthest(form) for form in [goal, *hints, *unlikes]])
    fields = Fields(bits_of(most), len(goal))
    packed = [fields.packed(hint) for hint in hints]
    further = [fields.packed(unlike) for unlike in unlikes]
    return Search(fields, len(goal)).found(packed, len(packed), further, [fields.packed(goal)])[0]


def shown(rows, claims, rule):
    """Tell the bundle of rows and claims with a paper for each want of a rule."""
    look_claims(rows, claims)
    look_rule(rule)
    papers = []
    for trunk in trunks_of(rows, claims, rule):
        search = Search(trunk.ground.fields, trunk.length)
        for group in trunk.groups:
            told = search.found(group.hints, group.many, group.unlikes, group.goals)
            if None in told:
                number = told.index(None)
                raise Unshown(group.at, group.sorts[number], len(papers) + number)
            papers.extend(told)
    return bundle_of(rows, claims, papers)
