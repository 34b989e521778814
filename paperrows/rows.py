"""Rows of the machine, and the claims of what registers hold at places among them."""

from paperrows.errors import NoClaims, NoRows
from paperrows.kinds import are_forms, are_whole

MOST_ROWS = 300
MOST_CLAIMS = 8
CLAIM_LENGTH = 10

# One letter for each part behind a row's word, as the document names the parts.
PARTS = {
    "set": "dn",
    "copy": "da",
    "plus": "dab",
    "minus": "dab",
    "more": "dan",
    "fold": "dan",
    "read": "dang",
    "write": "ansg",
    "jump": "t",
    "below": "abt",
    "same": "abt",
    "stop": "",
}
# From where to where the numbers of a part go; how far a place goes hangs on the rows.
SPANS = {
    "d": (0, 5),
    "a": (0, 5),
    "b": (0, 5),
    "s": (0, 5),
    "n": (-1000000, 1000000),
    "g": (0, 2),
    "t": (1, 1000000),
}
# The words of rows that lead to a place, which is their last part.
LEADS = ("jump", "below", "same")
# The words of rows that set a register, their first part, and do nothing else.
RECKONS = ("set", "copy", "plus", "minus", "more", "fold")


def look_rows(rows):
    """Refuse what are no rows."""
    if not isinstance(rows, tuple) or len(rows) == 0:
        raise NoRows(0)
    many = len(rows)
    for at, row in enumerate(rows[:MOST_ROWS]):
        if not _is_row(row, many):
            raise NoRows(at)
    if many > MOST_ROWS:
        raise NoRows(MOST_ROWS)
    if rows[-1][0] not in ("jump", "stop"):
        raise NoRows(many - 1)


def joins(rows):
    """Tell the places to which a jump, below or same leads, rising."""
    look_rows(rows)
    return sorted({row[-1] for row in rows if row[0] in LEADS})


def reads(row):
    """Tell the registers that a row reads, rising."""
    return sorted(set(_parts_of(row, "abs")))


def sets(row):
    """Tell the registers that a row sets, rising."""
    return _parts_of(row, "d")


def look_claims(rows, claims):
    """Refuse what are no claims of these rows."""
    look_rows(rows)
    if not isinstance(claims, dict) or not are_whole(list(claims)):
        raise NoClaims(None)
    led = {row[-1] for row in rows if row[0] in LEADS}
    for place in sorted(led):
        if not _are_claims(claims.get(place)):
            raise NoClaims(place)
    for place in sorted(claims):
        if place not in led and not (1 <= place < len(rows) and _are_claims(claims[place])):
            raise NoClaims(place)


def _is_row(row, many):
    if not isinstance(row, tuple) or len(row) == 0:
        return False
    word = row[0]
    # A list can't be looked for among the words of a dict.
    if not isinstance(word, str) or word not in PARTS:
        return False
    letters = PARTS[word]
    if len(row) != 1 + len(letters):
        return False
    for letter, part in zip(letters, row[1:]):
        if type(part) is not int:
            return False
        least, most = SPANS[letter]
        if part < least or part > most:
            return False
    return word not in LEADS or row[-1] < many


def _parts_of(row, letters):
    return [part for letter, part in zip(PARTS[row[0]], row[1:]) if letter in letters]


def _are_claims(things):
    return isinstance(things, list) and are_forms(things, MOST_CLAIMS, CLAIM_LENGTH)
