"""A pass that takes away tests one way of which is never gone."""

from paperrows.bundles import bundle_of, held_claims, held_papers
from paperrows.papers import MOST_WITHIN
from paperrows.passing import all_of, as_it_is, depth_of, is_long, let_trunks, recast, shares_of
from paperrows.passing import weights_of, without_rows
from paperrows.trunks import FIRST_U, trunks_of


class Never:
    """What shows that a way of a test is never gone: weights of the hints ahead of the test, and of its own hint.

    The own weight is below 0 where it is one of the own hint's opposite. Where the way isn't gone, the own hint's
    contrary holds: that is what a test that is taken away leaves unknown, and `lost` is its form.
    """

    def __init__(self, ahead, own, lost):
        self.weights = ahead
        self.own = own
        self.lost = lost

    def paper(self, many, further):
        """Tell the never, of so many hints and of further ones that have these weights."""
        return "never", self.weights + [0] * (many - len(self.weights)) + further

    def without_hints(self, paper, many, count):
        """Tell a paper without so many of its many hints, those that stand behind the hints ahead of the test."""
        at = len(self.weights)

        def without(weights):
            return weights[:at] + weights[at + count:]

        def put_behind(weights):
            return weights[:at] + weights[at + 1:many] + [weights[at]] + weights[many:]

        if not any([any(weights[at:at + count]) for weights in weights_of(paper)]):
            return recast(paper, without, as_it_is)
        if self.own == 0:
            return self.paper(many - count, [])
        if self.own == 1:
            told = recast(paper, self._put_together, as_it_is)
            if not is_long(told):
                return told
        return "split", self.lost, recast(paper, put_behind, as_it_is), self.paper(many - 1, [self.own])

    def _put_together(self, weights):
        """Tell weights with those of the never in the place of the lost hint's, which comes to theirs and more."""
        at = len(self.weights)
        often = weights[at]
        return [weight + often * further for weight, further in zip(weights, self.weights)] + weights[at + 1:]

    def without_unlike(self, paper, many, number):
        """Tell a paper of so many hints without aparts of the unlike with this number."""
        word = paper[0]
        if word in ("sum", "never"):
            return paper
        if word == "split" or paper[1] != number:
            one = self.without_unlike(paper[2], many + 1, number)
            other = self.without_unlike(paper[3], many + 1, number)
            first = paper[1] - 1 if word == "apart" and paper[1] > number else paper[1]
            return word, first, one, other
        if self.own == 0:
            return self.paper(many, [])
        # The unlike is known to be below 0 where its own weight is above, and the other way round.
        kept = self.without_unlike(paper[3] if self.own > 0 else paper[2], many + 1, number)
        return "split", self.lost, kept, self.paper(many, [abs(self.own)])


class Branch:
    """A below or same on a trunk, with the papers of all groups of the trunk."""

    def __init__(self, rows, trunk, papers, number):
        self.rows = rows
        self.trunk = trunk
        self.shares = papers
        self.number = number
        self.group = trunk.groups[number]
        self.is_below = rows[self.group.at][0] == "below"

    def papers_without(self):
        """Tell the papers of the trunk's groups without the test where the way to t is never gone, else None."""
        weights = _same_weights([self.shares[self.number]], len(self.group.hints))
        if weights is None:
            return None
        at, unlike = self.group.many, len(self.group.unlikes)
        never = self._never_led(weights[:at], weights[at:])
        told = self.shares[:self.number]
        for group, papers in zip(self.trunk.groups[self.number + 1:], self.shares[self.number + 1:]):
            many = len(group.hints)
            if self.is_below:
                told.append([never.without_hints(paper, many, 1) for paper in papers])
            else:
                told.append([never.without_unlike(paper, many, unlike) for paper in papers])
        return None if _are_too_deep(told) else told

    def _never_led(self, ahead, own):
        """Tell the never of the way to t."""
        first = self.group.hints[self.group.many]
        if self.is_below:
            return Never(ahead, own[0], self._form(-1 - first))
        weight = own[0] - own[1]
        return Never(ahead, weight, self._form(-1 - first if weight > 0 else first - 1))

    def papers_led(self):
        """Tell the papers of the trunk's groups with a jump to t where the way on is never gone, else None."""
        at = self.group.many
        weights = _same_weights(self.shares[self.number + 1:], at + 1 if self.is_below else at)
        if weights is None:
            return None
        never = Never(weights[:at], weights[at] if self.is_below else 0, self._form(self.group.hints[at]))
        many = len(self.group.hints)
        told = self.shares[:self.number]
        told.append([never.without_hints(paper, many, many - at) for paper in self.shares[self.number]])
        if _are_too_deep(told):
            return None
        # The trunk ends here, so its forms lose the unknowns of the reads behind.
        words = [row[0] for row in self.rows[self.trunk.beginning:self.group.at]]
        return [_shortened(papers, FIRST_U + words.count("read")) for papers in told]

    def _form(self, number):
        return self.trunk.ground.fields.unpacked(number, self.trunk.length)


def surely(bundle, rule):
    """Tell a bundle without the belows and sames one way of which is shown to be never gone."""
    return without_tests(bundle, rule, let_trunks(bundle, rule))


def without_tests(bundle, rule, trunks):
    """Tell a bundle, with these trunks, without the belows and sames one way of which is shown to be never gone."""
    rows, claims, papers = bundle.rows, held_claims(bundle), list(held_papers(bundle))
    taken = _taken_away(rows, claims, trunks, papers)
    while taken is not None:
        rows, claims, papers = taken
        taken = _taken_away(rows, claims, trunks_of(rows, claims, rule), papers)
    return bundle_of(rows, claims, papers)


def _taken_away(rows, claims, trunks, papers):
    """Tell rows, claims and papers without the first test that may be taken away, None where there is none."""
    shares = shares_of(trunks, papers)
    for place, trunk in enumerate(trunks):
        for number, group in enumerate(trunk.groups):
            if not group.leads or rows[group.at][0] == "jump":
                continue
            test = Branch(rows, trunk, shares[place], number)
            told = _without_test(rows, claims, test)
            if told is not None:
                left_rows, left_claims, left_papers = told
                return left_rows, left_claims, all_of(shares[:place] + [left_papers] + shares[place + 1:])
    return None


def _without_test(rows, claims, test):
    """Tell rows, claims and the trunk's papers without a test, None where it stays."""
    at = test.group.at
    # The start's first row may be no told place, and no place is told twice.
    if at + 1 not in claims or (at > 0 and at not in claims):
        told = test.papers_without()
        if told is not None:
            left_rows, left_claims = without_rows(rows, claims, {at: True})
            return left_rows, left_claims, told
    told = test.papers_led()
    if told is None:
        return None
    return rows[:at] + (("jump", test.group.target),) + rows[at + 1:], claims, told


def _shortened(papers, length):
    """Tell papers with forms of this length, without the unknowns behind it."""
    def cut(form):
        return form[:length]

    return [recast(paper, as_it_is, cut) for paper in papers]


def _same_weights(shares, many):
    """Tell the weights of so many hints that all papers have, at least one, each a never of these alone; else None."""
    told = None
    for papers in shares:
        for paper in papers:
            if paper[0] != "never" or any(paper[1][many:]) or (told is not None and paper[1][:many] != told):
                return None
            told = paper[1][:many]
    return told


def _are_too_deep(shares):
    return any([depth_of(paper) > MOST_WITHIN for papers in shares for paper in papers])
