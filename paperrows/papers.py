"""Papers: sums that show what must hold, and how great they are."""

from paperrows.errors import NoPapers
from paperrows.forms import added, contrary
from paperrows.kinds import is_form, is_whole

MOST_WITHIN = 10


def shows(paper, hints, unlikes, goal):
    """Tell whether anything is a paper that shows a goal by hints and unlikes."""
    return _shows(paper, list(hints), unlikes, goal, MOST_WITHIN)


def size(paper):
    """Tell how many sums and nevers are in a paper."""
    return _size(paper, MOST_WITHIN)


def size_of_all(papers):
    """Tell how many sums and nevers are in papers, all together."""
    return sum([size(paper) for paper in papers])


def parted(unlike):
    """Tell the two forms of which one holds where an unlike isn't 0: above it, and below it."""
    return added(unlike, (-1,) + (0,) * (len(unlike) - 1)), contrary(unlike)


def _shows(paper, hints, unlikes, goal, left):
    """Tell whether a paper with at most so many splits and aparts within one another shows a goal."""
    if not _is_paper(paper):
        return False
    if paper[0] == "sum":
        return _sum_shows(paper[1], paper[2], hints, goal)
    if paper[0] == "never":
        return _never_shows(paper[1], hints, goal)
    if left == 0:
        return False
    if paper[0] == "split":
        if len(paper[1]) != len(goal):
            return False
        further, other = paper[1], contrary(paper[1])
    else:
        if paper[1] >= len(unlikes):
            return False
        further, other = parted(unlikes[paper[1]])
    if not _shows(paper[2], hints + [further], unlikes, goal, left - 1):
        return False
    return _shows(paper[3], hints + [other], unlikes, goal, left - 1)


def _sum_shows(k, weights, hints, goal):
    if len(weights) != len(hints):
        return False
    total = _weighted(hints, weights, len(goal))
    rest = [k * number - taken for number, taken in zip(goal, total)]
    return rest[0] > -k and not any(rest[1:])


def _never_shows(weights, hints, goal):
    if len(weights) != len(hints):
        return False
    total = _weighted(hints, weights, len(goal))
    return total[0] < 0 and not any(total[1:])


def _weighted(forms, weights, length):
    """Tell the numbers of the form to which forms of this length come, each so often."""
    total = [0] * length
    for form, weight in zip(forms, weights):
        if weight != 0:
            total = [number + weight * further for number, further in zip(total, form)]
    return total


def _is_paper(thing):
    """Tell whether a thing is a paper, whatever papers it has within it."""
    if not isinstance(thing, tuple) or len(thing) == 0:
        return False
    # Of anything, a word may stand there that is no text: it is compared, never looked for.
    if thing[0] == "sum":
        return len(thing) == 3 and is_whole(thing[1]) and thing[1] >= 1 and _are_weights(thing[2])
    if thing[0] == "never":
        return len(thing) == 2 and _are_weights(thing[1])
    if thing[0] == "split":
        return len(thing) == 4 and is_form(thing[1])
    return thing[0] == "apart" and len(thing) == 4 and is_whole(thing[1]) and thing[1] >= 0


def _are_weights(things):
    return isinstance(things, list) and all([is_whole(thing) and thing >= 0 for thing in things])


def _size(paper, left):
    if not _is_paper(paper):
        raise NoPapers("no paper")
    if paper[0] in ("sum", "never"):
        return 1
    if left == 0:
        raise NoPapers("too many splits and aparts within one another")
    return _size(paper[2], left - 1) + _size(paper[3], left - 1)
