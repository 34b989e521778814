"""A pass that leads ways over jumps, and over stops behind jumps."""

from paperrows.bundles import bundle_of, held_claims, held_papers
from paperrows.forms import led
from paperrows.papers import MOST_WITHIN
from paperrows.passing import all_of, depth_of, is_long, let_trunks, recast, shares_of
from paperrows.rows import LEADS
from paperrows.trunks import led_by


class Way:
    """A way to a told place that is being led on: the claims there, as they are on the way, and their papers."""

    def __init__(self, trunk, group, papers):
        self.fields = trunk.ground.fields
        self.length = trunk.length
        self.known = len(trunk.ground.known)
        self.many = len(group.hints)
        self.worths = group.worths
        self.goals = group.goals
        self.shown = papers

    def lead_over(self, papers, forms):
        """Go on over a row that wants these claims or ends, by its papers; tell whether no paper gets too deep."""
        told = [self._led(paper) for paper in papers]
        if any([depth_of(paper) > MOST_WITHIN for paper in told]):
            return False
        self.shown = told
        self.goals = [led_by(form, self.worths) for form in forms]
        return True

    def _led(self, paper):
        """Tell a paper of the way's hints that shows what a paper of the facts and the way's claims does."""
        used = self._used(paper)
        for number in used:
            if self.shown[number][0] == "never":
                return self.shown[number]
        straight = [number for number in used if self.shown[number][:2] == ("sum", 1)]
        told = self._put_together(paper, used, straight)
        if len(straight) > 0 and is_long(told):
            told = self._put_together(paper, used, [])
        return told

    def _used(self, paper):
        """Tell the claims that some sum or never of a paper takes, rising."""
        if paper[0] in ("sum", "never"):
            behind = self.known + len(self.goals)
            return [number for number, weight in enumerate(paper[-1][self.known:behind]) if weight != 0]
        return sorted(set(self._used(paper[2]) + self._used(paper[3])))

    def _put_together(self, paper, used, straight):
        """Tell the paper with the hints' weights of some claims in the place of theirs, and splits of the others.

        A claim shown by a sum with 1 for k is what its hints come to and something from 0 on, so its weight may be
        theirs. Another one is split: where it holds, it is a hint, and where it doesn't, its paper shows a never.
        """
        parted = [number for number in used if number not in straight]

        def weigh(weights):
            claimed = weights[self.known:]
            new = weights[:self.known] + [0] * (self.many - self.known)
            for claim in straight:
                often = claimed[claim]
                new = [weight + often * further for weight, further in zip(new, self.shown[claim][2])]
            return new + [claimed[split] for split in parted] + claimed[len(self.goals):]

        told = recast(paper, weigh, self._reform)
        for ahead in range(len(parted) - 1, -1, -1):
            number = parted[ahead]
            form = self.fields.unpacked(self.goals[number], self.length)
            told = ("split", form, told, _against(self.shown[number], self.many, ahead))
        return told

    def _reform(self, form):
        return led(form, [self.fields.unpacked(worth, self.length) for worth in self.worths[1:]])


def led_on(bundle, rule):
    """Tell a bundle whose ways over jumps lead where these lead."""
    return led_over(bundle, rule, let_trunks(bundle, rule))


def led_over(bundle, rule, trunks):
    """Tell a bundle, with these trunks, whose ways over jumps lead where these lead."""
    shares = shares_of(trunks, held_papers(bundle))
    # The papers of each told place's first row: of a jump or stop these are all of its trunk.
    firsts = {trunk.beginning: papers[0] for trunk, papers in zip(trunks, shares) if len(papers) > 0}
    ways = _ways_of(trunks, shares)
    told = [_led_row(at, bundle, rule, ways.get(at), firsts) for at in range(len(bundle.rows))]
    for trunk, papers in zip(trunks, shares):
        for number, group in enumerate(trunk.groups):
            if group.leads:
                papers[number] = ways[group.at].shown
    return bundle_of(tuple(told), held_claims(bundle), all_of(shares))


def _ways_of(trunks, shares):
    """Tell by places the ways on which jumps, belows and sames of trunks lead."""
    told = {}
    for trunk, papers in zip(trunks, shares):
        for number, group in enumerate(trunk.groups):
            if group.leads:
                told[group.at] = Way(trunk, group, papers[number])
    return told


def _led_row(at, bundle, rule, way, firsts):
    """Tell the row at a place, led on as far as it may be; there is no way where it is on no trunk."""
    rows, claims = bundle.rows, held_claims(bundle)
    row = rows[at]
    if row[0] not in LEADS:
        return row
    target = row[-1]
    for jump in _jumps_ahead(rows, at):
        behind = rows[jump][1]
        if way is not None and not way.lead_over(firsts[jump], claims[behind]):
            return (*row[:-1], target)
        target = behind
    if row[0] == "jump" and rows[target][0] == "stop":
        if way is None or way.lead_over(firsts[target], rule.ends):
            return ("stop",)
    return (*row[:-1], target)


def _jumps_ahead(rows, at):
    """Tell the jumps, in turn, over which a row leads; none where they come round, or lead to the row itself."""
    told, place = [], rows[at][-1]
    while rows[place][0] == "jump":
        if place == at or place in told:
            return []
        told.append(place)
        place = rows[place][1]
    return [] if place == at else told


def _against(paper, many, ahead):
    """Tell a paper of a never, of a paper of what is known not to be: its contrary stands behind so many splits."""
    word = paper[0]
    if word in ("sum", "never"):
        weights, k = paper[-1], paper[1] if word == "sum" else 0
        return "never", weights[:many] + [0] * ahead + [k] + weights[many:]
    return word, paper[1], _against(paper[2], many, ahead), _against(paper[3], many, ahead)
