"""The looker: whether a bundle's papers show all that a rule wants of its rows."""

from paperrows.bundles import Bundle
from paperrows.errors import NoArea
from paperrows.papers import shows
from paperrows.rules import Rule
from paperrows.wants import wants


def lets_by(bundle, rule):
    """Tell whether a thing is a bundle that is let by for a thing that is a rule."""
    if not isinstance(bundle, Bundle) or not isinstance(rule, Rule):
        return False
    try:
        return lacking(bundle, rule) is None
    except NoArea:
        return False


def lacking(bundle, rule):
    """Tell the row, sort and number of the first want that its paper does not show, None where there is none."""
    papers = bundle.papers()
    told = wants(bundle.rows, bundle.claims(), rule)
    for number, (row, sort, hints, unlikes, goal) in enumerate(told):
        if number >= len(papers) or not shows(papers[number], hints, unlikes, goal):
            return row, sort, number
    if len(papers) > len(told):
        return -1, "more", len(told)
    return None
