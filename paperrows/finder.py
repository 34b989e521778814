"""The finder: papers of wants, and bundles with all their papers."""

from paperrows.bundles import bundle_of
from paperrows.corners import Chase, Corner, Hints
from paperrows.errors import Unshown
from paperrows.forms import contrary
from paperrows.papers import MOST_WITHIN, sides_of
from paperrows.rows import look_claims
from paperrows.rules import look_rule
from paperrows.trunks import trunks_of


class Search:
    """The search for papers of wants with forms of the same length."""

    def __init__(self, length):
        self.many = length - 1
        self.beginning = None

    def found(self, known, unlikes, against):
        """Tell a paper by hints and unlikes that shows a goal with this contrary, None where none is found."""
        if self.beginning is None:
            self.beginning = Corner(self.many)
        # A goal is shown where its contrary and the hints never hold together.
        chase = Chase(against, known, self.beginning)
        return self._paper(chase, chase.weights_anew(), unlikes, 0)

    def _paper(self, chase, weights, unlikes, done):
        """Tell the paper of weights, if there are some; else one by aparts, where so many were done already."""
        if weights is not None:
            return ("sum", weights[0], weights[1:]) if weights[0] > 0 else ("never", weights[1:])
        if done == min(len(unlikes), MOST_WITHIN):
            return None
        papers = []
        for further in sides_of(unlikes[done]):
            # What was found out of fewer hints is gone on with: the corner has to move but a little.
            other = Chase(chase.contrary, chase.hints.with_one(further), chase.corner)
            paper = self._paper(other, other.weights_on(), unlikes, done + 1)
            if paper is None:
                return None
            papers.append(paper)
        return "apart", done, papers[0], papers[1]


class TrunkSearch:
    """The search for the papers of a trunk, by its forms without the unknowns that none of them has."""

    def __init__(self, trunk):
        self.fields = trunk.ground.fields
        numbers = [*trunk.hints, *trunk.unlikes]
        for group in trunk.groups:
            numbers.extend(group.hints[group.many:])
            numbers.extend(group.goals)
        self.places = self.fields.places_used(numbers)
        self.search = Search(len(self.places))
        self.forms = {}

    def found(self, group):
        """Tell a paper for each want of a group, None where none is found."""
        if len(group.goals) == 0:
            return []
        known, unlikes = Hints(self._forms(group.hints), len(self.places) - 1), self._forms(group.unlikes)
        against = self._forms([-1 - goal for goal in group.goals])
        return [self.search.found(known, unlikes, form) for form in against]

    def _forms(self, numbers):
        forms = self.forms
        # Most hints stand in many groups.
        for number in numbers:
            if number not in forms:
                forms[number] = self.fields.numbers_at(number, self.places)
        return [forms[number] for number in numbers]


def found(hints, unlikes, goal):
    """Tell a paper that shows a goal by hints and unlikes, None where none is found."""
    return Search(len(goal)).found(Hints(hints, len(goal) - 1), unlikes, contrary(goal))


def shown(rows, claims, rule):
    """Tell the bundle of rows and claims with a paper for each want of a rule."""
    look_claims(rows, claims)
    look_rule(rule)
    papers = []
    for trunk in trunks_of(rows, claims, rule):
        search = TrunkSearch(trunk)
        for group in trunk.groups:
            told = search.found(group)
            if None in told:
                number = told.index(None)
                raise Unshown(group.at, group.sorts[number], len(papers) + number)
            papers.extend(told)
    return bundle_of(rows, claims, papers)
