"""The looker: whether a bundle's papers show all that a rule wants of its rows."""

from paperrows.bundles import Bundle, held_claims, held_papers
from paperrows.errors import NoArea
from paperrows.fields import TooGreat
from paperrows.papers import MOST_WITHIN, Look, shows
from paperrows.rules import Rule, look_rule
from paperrows.trunks import trunks_of


def lets_by(bundle, rule):
    """Tell whether a thing is a bundle that is let by for a thing that is a rule."""
    if not isinstance(bundle, Bundle) or not isinstance(rule, Rule):
        return False
    try:
        return lacking(bundle, rule) is None
    except NoArea:
        return False


def lacking(bundle, rule):
    """Tell the row, sort and number of the first want that its paper does not show, None where there is none."""
    look_rule(rule)
    return lacking_of(trunks_of(bundle.rows, held_claims(bundle), rule), held_papers(bundle))


def lacking_of(trunks, papers):
    """Tell what lacks of papers, where trunks are walked already."""
    number = 0
    for trunk in trunks:
        for group in trunk.groups:
            for at, goal in enumerate(group.goals):
                if number >= len(papers) or not _shows(papers[number], trunk, group, goal):
                    return group.at, group.sorts[at], number
                number += 1
    if len(papers) > number:
        return -1, "more", number
    return None


def _shows(paper, trunk, group, goal):
    fields, length = trunk.ground.fields, trunk.length
    try:
        return Look(fields, length, group.unlikes, goal).shows(paper, group.hints, MOST_WITHIN)
    except TooGreat:
        # Its numbers are too great for the fields, so the forms are taken as they are.
        hints = [fields.unpacked(hint, length) for hint in group.hints]
        unlikes = [fields.unpacked(unlike, length) for unlike in group.unlikes]
        return shows(paper, hints, unlikes, fields.unpacked(goal, length))
