"""Wants: all that must hold, of rows with claims, for a rule to be kept."""

from paperrows.rows import look_claims
from paperrows.rules import look_rule
from paperrows.trunks import trunks_of


def wants(rows, claims, rule):
    """Tell all that must hold, in turn: tuples of a row's place, a sort, hints, unlikes and a goal."""
    look_claims(rows, claims)
    look_rule(rule)
    told = []
    for trunk in trunks_of(rows, claims, rule):
        told.extend(_trunk_wants(trunk))
    return told


def _trunk_wants(trunk):
    fields, length = trunk.ground.fields, trunk.length
    # Most forms stand in many wants.
    forms = {}
    told = []
    for group in trunk.groups:
        for number in [*group.hints, *group.unlikes, *group.goals]:
            if number not in forms:
                forms[number] = fields.unpacked(number, length)
        for number, goal in enumerate(group.goals):
            # Each want has lists of its own: what is done to those of one changes no other one.
            hints = [forms[hint] for hint in group.hints]
            unlikes = [forms[unlike] for unlike in group.unlikes]
            told.append((group.at, group.sorts[number], hints, unlikes, forms[goal]))
    return told
