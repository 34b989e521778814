"""Bundles: rows with their claims and papers."""

from paperrows.errors import NoPapers
from paperrows.kinds import copied, is_sequence
from paperrows.papers import size_of_all
from paperrows.rows import look_claims

SHORTEST = (("stop",),)


class Bundle:
    """Rows, claims of what the registers hold at places among them, and things that may be papers of them."""

    def __init__(self, rows, claims, papers=()):
        look_claims(rows, claims)
        if not is_sequence(papers):
            raise NoPapers("papers are no list or tuple")
        self.rows = rows
        self._claims = {place: list(claims[place]) for place in claims}
        self._papers = copied(list(papers))

    def __eq__(self, other):
        if not isinstance(other, Bundle):
            return False
        return self.rows == other.rows and self._claims == other._claims and self._papers == other._papers

    def __len__(self):
        return len(self.rows)

    def claims(self):
        """Tell the claims, a list for each told place."""
        return {place: list(self._claims[place]) for place in self._claims}

    def papers(self):
        """Tell the papers as a list."""
        return copied(self._papers)

    def size(self):
        """Tell how many sums and nevers are in all papers."""
        return size_of_all(self._papers)


def bundle_of(rows, claims, papers):
    """Tell the bundle of rows and claims that are known to be some, and of papers that no one else holds."""
    bundle = Bundle(SHORTEST, {})
    bundle.rows = rows
    bundle._claims = {place: list(claims[place]) for place in claims}
    bundle._papers = papers
    return bundle


def held_claims(bundle):
    """Tell a bundle's claims as it holds them: to be read alone."""
    return bundle._claims


def held_papers(bundle):
    """Tell a bundle's papers as it holds them: to be read alone."""
    return bundle._papers
