"""What all passes need: a bundle that is let by, its papers by the wants they show, and how papers are rewritten."""

from paperrows.bundles import held_claims, held_papers
from paperrows.errors import Unlet
from paperrows.looker import lacking_of
from paperrows.rows import LEADS
from paperrows.rules import look_rule
from paperrows.trunks import trunks_of

# Weights are only put together as long as these stay below this: then no pass makes them much longer.
LONG = 10 ** 50


def let_trunks(bundle, rule):
    """Tell the trunks of a bundle that a rule lets by; refuse another one."""
    look_rule(rule)
    trunks = trunks_of(bundle.rows, held_claims(bundle), rule)
    lacking = lacking_of(trunks, held_papers(bundle))
    if lacking is not None:
        row, kind, number = lacking
        raise Unlet(row, kind, number)
    return trunks


def shares_of(trunks, papers):
    """Tell for each trunk the papers of each of its groups."""
    told, number = [], 0
    for trunk in trunks:
        shares = []
        for group in trunk.groups:
            behind = number + len(group.goals)
            shares.append(papers[number:behind])
            number = behind
        told.append(shares)
    return told


def all_of(shares):
    """Tell the papers of all groups of all trunks, one behind another."""
    return [paper for trunk_shares in shares for papers in trunk_shares for paper in papers]


def without_rows(rows, claims, gone):
    """Tell rows and claims without the rows at some places; what leads to one, leads to the row behind it."""
    places, kept = [], []
    for at, row in enumerate(rows):
        places.append(len(kept))
        if at not in gone:
            kept.append(row)
    led = tuple([(*row[:-1], places[row[-1]]) if row[0] in LEADS else row for row in kept])
    return led, {places[at]: claims[at] for at in claims}


def recast(paper, weigh, reform):
    """Tell a paper with the weights of its sums and nevers, and the forms of its splits, made into others."""
    word = paper[0]
    if word == "sum":
        return word, paper[1], weigh(paper[2])
    if word == "never":
        return word, weigh(paper[1])
    first = reform(paper[1]) if word == "split" else paper[1]
    return word, first, recast(paper[2], weigh, reform), recast(paper[3], weigh, reform)


def as_it_is(part):
    """Tell weights or a form that stay as they are."""
    return part


def depth_of(paper):
    """Tell how many splits and aparts of a paper stand within one another."""
    if paper[0] in ("sum", "never"):
        return 0
    return 1 + max(depth_of(paper[2]), depth_of(paper[3]))


def weights_of(paper):
    """Tell the weights of all sums and nevers of a paper."""
    if paper[0] in ("sum", "never"):
        return [paper[-1]]
    return weights_of(paper[2]) + weights_of(paper[3])


def is_long(paper):
    """Tell whether a weight of a paper is too long to be put together with others."""
    return any([max(weights, default=0) >= LONG for weights in weights_of(paper)])
