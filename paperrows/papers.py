"""Papers: sums that show what must hold, and how great they are."""

from paperrows.errors import NoPapers
from paperrows.forms import contrary
from paperrows.kinds import is_form

MOST_WITHIN = 10


class Forms:
    """How a paper is looked at by forms as they are; fields look at it by forms that are put into numbers."""

    def left(self, k, goal, weights, hints):
        """Tell to what a goal comes, k times, less all hints, so often; None where that is no constant alone."""
        told = [k * number for number in goal]
        for weight, hint in zip(weights, hints):
            if weight != 0:
                told = [number - weight * further for number, further in zip(told, hint)]
        return None if any(told[1:]) else told[0]

    def further(self, form):
        """Tell a split's form, and its contrary."""
        return form, contrary(form)

    def parted(self, unlike):
        """Tell the two forms of which one holds where an unlike isn't 0: above it, and below it."""
        return sides_of(unlike)


class Look:
    """What a paper is looked at with: unlikes and a goal, and how their forms are reckoned with."""

    def __init__(self, forms, length, unlikes, goal):
        self.forms = forms
        self.length = length
        self.unlikes = unlikes
        self.goal = goal

    def shows(self, paper, hints, left):
        """Tell whether anything, with at most so many splits and aparts within one another, shows the goal."""
        if not _is_paper(paper):
            return False
        if paper[0] == "sum":
            return self._sum_shows(paper[1], paper[2], hints)
        if paper[0] == "never":
            return self._never_shows(paper[1], hints)
        if left == 0:
            return False
        if paper[0] == "split":
            if len(paper[1]) != self.length:
                return False
            further, other = self.forms.further(paper[1])
        else:
            if paper[1] >= len(self.unlikes):
                return False
            further, other = self.forms.parted(self.unlikes[paper[1]])
        return self.shows(paper[2], hints + [further], left - 1) and self.shows(paper[3], hints + [other], left - 1)

    def _sum_shows(self, k, weights, hints):
        if len(weights) != len(hints):
            return False
        told = self.forms.left(k, self.goal, weights, hints)
        return told is not None and told > -k

    def _never_shows(self, weights, hints):
        if len(weights) != len(hints):
            return False
        # No goal, less the hints: that is above 0 where the hints come to less.
        told = self.forms.left(0, self.goal, weights, hints)
        return told is not None and told > 0


def shows(paper, hints, unlikes, goal):
    """Tell whether anything is a paper that shows a goal by hints and unlikes."""
    return Look(Forms(), len(goal), unlikes, goal).shows(paper, list(hints), MOST_WITHIN)


def sides_of(unlike):
    """Tell the two forms of which one holds where an unlike isn't 0: above it, and below it."""
    return (unlike[0] - 1, *unlike[1:]), contrary(unlike)


def size(paper):
    """Tell how many sums and nevers are in a paper."""
    return _size(paper, MOST_WITHIN)


def size_of_all(papers):
    """Tell how many sums and nevers are in papers, all together."""
    return sum([size(paper) for paper in papers])


def _is_paper(thing):
    """Tell whether a thing is a paper, whatever papers it has within it."""
    if not isinstance(thing, tuple) or len(thing) == 0:
        return False
    # Of anything, a word may stand there that is no text: it is compared, never looked for.
    word = thing[0]
    if word == "sum":
        return len(thing) == 3 and type(thing[1]) is int and thing[1] >= 1 and _are_weights(thing[2])
    if word == "never":
        return len(thing) == 2 and _are_weights(thing[1])
    if word == "split":
        return len(thing) == 4 and is_form(thing[1])
    return word == "apart" and len(thing) == 4 and type(thing[1]) is int and thing[1] >= 0


def _are_weights(things):
    if not isinstance(things, list):
        return False
    for thing in things:
        if type(thing) is not int or thing < 0:
            return False
    return True


def _size(paper, left):
    if not _is_paper(paper):
        raise NoPapers("no paper")
    if paper[0] in ("sum", "never"):
        return 1
    if left == 0:
        raise NoPapers("too many splits and aparts within one another")
    return _size(paper[2], left - 1) + _size(paper[3], left - 1)
