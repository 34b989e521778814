"""Passes by their words, done one behind another."""

from paperrows.bundles import bundle_of, held_claims, held_papers
from paperrows.errors import NoPass
from paperrows.leading import led_over
from paperrows.passing import let_trunks
from paperrows.sparing import without_spare
from paperrows.sureness import without_tests
from paperrows.thinning import without_unled
from paperrows.trunks import trunks_of

WORDS = ("thinned", "spared", "led_on", "surely")


def passed(bundle, rule, *, words):
    """Tell a bundle to which all passes of a list of words were done, one behind another."""
    let_trunks(bundle, rule)
    _look_words(words)
    told = bundle_of(bundle.rows, held_claims(bundle), list(held_papers(bundle)))
    for word in words:
        told = _done(word, told, rule)
    return told


def _done(word, bundle, rule):
    """Tell a bundle that is let by with one pass done to it: what a pass tells is let by, and not looked at again."""
    if word == "spared":
        return without_spare(bundle, rule)
    trunks = trunks_of(bundle.rows, held_claims(bundle), rule)
    if word == "thinned":
        return without_unled(bundle, trunks)
    if word == "led_on":
        return led_over(bundle, rule, trunks)
    return without_tests(bundle, rule, trunks)


def _look_words(words):
    if not isinstance(words, list):
        raise NoPass(None)
    for at, word in enumerate(words):
        if not isinstance(word, str) or word not in WORDS:
            raise NoPass(at)
