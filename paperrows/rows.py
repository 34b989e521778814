"""Rows of the machine, and the claims of what registers hold at places among them."""

from paperrows.errors import NoClaims, NoRows
from paperrows.kinds import are_forms, is_between, is_number, is_whole

LAST_REGISTER = 5
LAST_AREA = 2
MOST_ROWS = 300
MOST_CLAIMS = 8
CLAIM_LENGTH = 10

# One letter for each part behind a row's word, as the document names the parts.
PARTS = {
    "set": "dn",
    "copy": "da",
    "plus": "dab",
    "minus": "dab",
    "more": "dan",
    "fold": "dan",
    "read": "dang",
    "write": "ansg",
    "jump": "t",
    "below": "abt",
    "same": "abt",
    "stop": "",
}


def look_rows(rows):
    """Refuse what are no rows."""
    if not isinstance(rows, tuple) or len(rows) == 0:
        raise NoRows(0)
    for at, row in enumerate(rows[:MOST_ROWS]):
        if not _is_row(row, len(rows)):
            raise NoRows(at)
    if len(rows) > MOST_ROWS:
        raise NoRows(MOST_ROWS)
    if rows[-1][0] not in ("jump", "stop"):
        raise NoRows(len(rows) - 1)


def joins(rows):
    """Tell the places to which a jump, below or same leads, rising."""
    look_rows(rows)
    return sorted({place for row in rows for place in _parts_of(row, "t")})


def reads(row):
    """Tell the registers that a row reads, rising."""
    return sorted(set(_parts_of(row, "abs")))


def sets(row):
    """Tell the registers that a row sets, rising."""
    return _parts_of(row, "d")


def look_claims(rows, claims):
    """Refuse what are no claims of these rows."""
    told = joins(rows)
    if not isinstance(claims, dict) or not all([is_whole(place) for place in claims]):
        raise NoClaims(None)
    for place in told:
        if not _are_claims(claims.get(place)):
            raise NoClaims(place)
    for place in sorted(claims):
        if not 1 <= place < len(rows) or not _are_claims(claims[place]):
            raise NoClaims(place)


def _is_row(row, many):
    if not isinstance(row, tuple) or len(row) == 0:
        return False
    word = row[0]
    # A list can't be looked for among the words of a dict.
    if not isinstance(word, str) or word not in PARTS or len(row) != 1 + len(PARTS[word]):
        return False
    return all([_is_part(letter, part, many) for letter, part in zip(PARTS[word], row[1:])])


def _is_part(letter, part, many):
    if letter == "n":
        return is_number(part)
    if letter == "t":
        return is_between(part, 1, many - 1)
    return is_between(part, 0, LAST_AREA if letter == "g" else LAST_REGISTER)


def _parts_of(row, letters):
    return [part for letter, part in zip(PARTS[row[0]], row[1:]) if letter in letters]


def _are_claims(things):
    return isinstance(things, list) and are_forms(things, MOST_CLAIMS, CLAIM_LENGTH)
