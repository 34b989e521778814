"""The finder: papers of wants, and bundles with all their papers."""

from paperrows.bundles import Bundle
from paperrows.corners import Corner, contradiction, parts_of
from paperrows.errors import Unshown
from paperrows.forms import contrary
from paperrows.papers import MOST_WITHIN, parted
from paperrows.wants import wants


def found(hints, unlikes, goal):
    """Tell a paper that shows a goal by hints and unlikes, None where none is found."""
    # A goal is shown where its contrary and the hints never hold together.
    forms = [parts_of(form) for form in [contrary(goal), *hints]]
    return _found(Corner(len(goal) - 1), forms, unlikes, 0)


def shown(rows, claims, rule):
    """Tell the bundle of rows and claims with a paper for each want of a rule."""
    papers = []
    for number, (row, sort, hints, unlikes, goal) in enumerate(wants(rows, claims, rule)):
        paper = found(hints, unlikes, goal)
        if paper is None:
            raise Unshown(row, sort, number)
        papers.append(paper)
    return Bundle(rows, claims, papers)


def _found(corner, forms, unlikes, done):
    """Tell a paper by forms, the goal's contrary first, where so many unlikes are taken apart already."""
    weights = contradiction(corner, forms)
    if weights is not None:
        return ("sum", weights[0], weights[1:]) if weights[0] > 0 else ("never", weights[1:])
    if done == min(len(unlikes), MOST_WITHIN):
        return None
    papers = []
    for further in parted(unlikes[done]):
        # What was found out of fewer forms is gone on with: the corner has to move but a little.
        paper = _found(corner.twin(), forms + [parts_of(further)], unlikes, done + 1)
        if paper is None:
            return None
        papers.append(paper)
    return "apart", done, papers[0], papers[1]
