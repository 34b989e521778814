"""Passes by their words, done one behind another."""

from paperrows.bundles import bundle_of, held_claims, held_papers
from paperrows.errors import NoPass
from paperrows.leading import led_on
from paperrows.passing import let_trunks
from paperrows.sparing import spared
from paperrows.sureness import surely
from paperrows.thinning import thinned

WORDS = ("thinned", "spared", "led_on", "surely")


def passed(bundle, rule, *, words):
    """Tell a bundle to which all passes of a list of words were done, one behind another."""
    let_trunks(bundle, rule)
    _look_words(words)
    told = bundle_of(bundle.rows, held_claims(bundle), list(held_papers(bundle)))
    for word in words:
        told = _done(word, told, rule)
    return told


def _done(word, bundle, rule):
    if word == "thinned":
        return thinned(bundle, rule)
    if word == "spared":
        return spared(bundle, rule)
    if word == "led_on":
        return led_on(bundle, rule)
    return surely(bundle, rule)


def _look_words(words):
    if not isinstance(words, list):
        raise NoPass(None)
    for at, word in enumerate(words):
        if not isinstance(word, str) or word not in WORDS:
            raise NoPass(at)
