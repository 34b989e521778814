"""A pass that leaves out rows whose register nobody reads."""

from paperrows.bundles import bundle_of, held_claims, held_papers
from paperrows.passing import let_trunks, without_rows
from paperrows.rows import RECKONS, reads, sets
from paperrows.thinning import FIRST_REGISTER, ways_on


def spared(bundle, rule):
    """Tell a bundle without the rows whose register nobody reads behind them."""
    let_trunks(bundle, rule)
    return without_spare(bundle, rule)


def without_spare(bundle, rule):
    """Tell a bundle that is let by without the rows whose register nobody reads behind them."""
    rows, claims = bundle.rows, held_claims(bundle)
    at = _spare_row(rows, claims, rule)
    while at is not None:
        rows, claims = without_rows(rows, claims, {at: True})
        at = _spare_row(rows, claims, rule)
    # A row that is left out wants nothing by itself, so each want keeps its paper.
    return bundle_of(rows, claims, list(held_papers(bundle)))


def _spare_row(rows, claims, rule):
    """Tell the place of the last row that may be left out, None where there is none."""
    read = _read_behind(rows, claims, rule)
    for at in range(len(rows) - 1, -1, -1):
        row = rows[at]
        if row[0] not in RECKONS or read[at] >> row[1] & 1 == 1:
            continue
        # The start's first row may be no told place, and no place is told twice.
        if at + 1 in claims and (at == 0 or at in claims):
            continue
        return at
    return None


def _read_behind(rows, claims, rule):
    """Tell for each row of which registers, a bit for each, what they hold behind it is read on some way."""
    wanted = [_read_at(row, claims.get(at, []), rule) for at, row in enumerate(rows)]
    kept = [-1 - _bits(sets(row)) for row in rows]
    on = [ways_on(rows, at) for at in range(len(rows))]
    ahead, behind = list(wanted), [0] * len(rows)
    changed = True
    while changed:
        changed = False
        for at in range(len(rows) - 1, -1, -1):
            told = 0
            for place in on[at]:
                told |= ahead[place]
            if told != behind[at]:
                behind[at] = told
                ahead[at] = wanted[at] | (told & kept[at])
                changed = True
    return behind


def _read_at(row, claims, rule):
    """Tell of which registers a row, the claims at its place and, if it is a stop, the ends read."""
    told = _bits(reads(row))
    ends = rule.ends if row[0] == "stop" else ()
    for form in [*claims, *ends]:
        told |= _bits([number for number in range(6) if form[FIRST_REGISTER + number] != 0])
    return told


def _bits(numbers):
    told = 0
    for number in numbers:
        told |= 1 << number
    return told
