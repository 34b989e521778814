"""Passes that leave out rows to which no way leads, or give registers other names."""

from paperrows.bundles import bundle_of, held_claims, held_papers
from paperrows.errors import NoNames
from paperrows.passing import all_of, as_it_is, let_trunks, recast, shares_of, without_rows
from paperrows.rows import PARTS
from paperrows.rules import END_LENGTH

# The registers that may be given other names, and where the numbers of registers begin in a form.
NAMED = (3, 4, 5)
FIRST_REGISTER = 4
REGISTERS = "dabs"


def thinned(bundle, rule):
    """Tell a bundle without the rows to which no way leads from the first row."""
    return without_unled(bundle, let_trunks(bundle, rule))


def without_unled(bundle, trunks):
    """Tell a bundle, with these trunks, without the rows to which no way leads from the first row."""
    rows = bundle.rows
    led_to = _led_to(rows)
    gone = {at: True for at in range(len(rows)) if at not in led_to}
    claims = {at: told for at, told in held_claims(bundle).items() if at not in gone}
    shares = shares_of(trunks, held_papers(bundle))
    kept = [told for trunk, told in zip(trunks, shares) if trunk.beginning not in gone]
    rows, claims = without_rows(rows, claims, gone)
    return bundle_of(rows, claims, all_of(kept))


def renamed(bundle, rule, names):
    """Tell a bundle in which the registers 3, 4 and 5 have these names."""
    let_trunks(bundle, rule)
    if not isinstance(names, list) or not _are_names(names):
        raise NoNames("no list of 3, 4 and 5 in some order")
    places = _new_places(names)
    if any([end[at] != 0 and places[at] != at for end in rule.ends for at in range(END_LENGTH)]):
        raise NoNames("an end tells of a register that would be another one")

    def reform(form):
        told = list(form)
        for at, place in enumerate(places):
            told[place] = form[at]
        return tuple(told)

    rows = tuple([_renamed_row(row, places) for row in bundle.rows])
    held = held_claims(bundle)
    claims = {at: [reform(claim) for claim in held[at]] for at in held}
    return bundle_of(rows, claims, [recast(paper, as_it_is, reform) for paper in held_papers(bundle)])


def _led_to(rows):
    """Tell the places of rows to which ways lead from the first row, as a dict of True."""
    told, ahead = {0: True}, [0]
    while len(ahead) > 0:
        at = ahead.pop()
        for place in ways_on(rows, at):
            if place not in told:
                told[place] = True
                ahead.append(place)
    return told


def ways_on(rows, at):
    """Tell the places to which ways lead from a row."""
    row = rows[at]
    if row[0] == "stop":
        return []
    if row[0] == "jump":
        return [row[1]]
    if row[0] in ("below", "same"):
        return [row[3], at + 1]
    return [at + 1]


def _are_names(names):
    return all([type(name) is int for name in names]) and sorted(names) == list(NAMED)


def _new_places(names):
    """Tell for each number of a claim where it stands when the registers are renamed."""
    told = list(range(END_LENGTH))
    for number, name in zip(NAMED, names):
        told[FIRST_REGISTER + number] = FIRST_REGISTER + name
    return told


def _renamed_row(row, places):
    told = [row[0]]
    for letter, part in zip(PARTS[row[0]], row[1:]):
        told.append(places[FIRST_REGISTER + part] - FIRST_REGISTER if letter in REGISTERS else part)
    return tuple(told)
