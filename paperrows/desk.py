"""The desk: rules and bundles by names, told by rows of text."""

from paperrows.bundles import Bundle
from paperrows.errors import NoName, NoSaying
from paperrows.finder import shown
from paperrows.forms import FIGURES, LETTERS
from paperrows.looker import lacking
from paperrows.passes import passed
from paperrows.rules import Rule
from paperrows.runs import MOST_BUDGET, run
from paperrows.ruletexts import read_rule, rule_text
from paperrows.texts import bundle_text, read_bundle

LONGEST_NAME = 8
MOST_NUMBER = 1000000

# One letter for each word behind the first one: a new name, a bundle's, a rule's or anything's, a number of a start,
# a budget, or any word.
PARTS = {
    "look": "br",
    "find": "nbr",
    "pass": "nbrw",
    "run": "brpppm",
    "size": "b",
    "show": "x",
    "drop": "x",
    "names": "",
}


class Desk:
    """Rules and bundles by names, and what is done with them by rows of text."""

    def __init__(self):
        self._things = {}

    def say(self, row):
        """Do what a row of text tells, and tell the answer."""
        if not isinstance(row, str) or "\n" in row:
            raise NoSaying("no row of text")
        words = row.split(" ")
        if words[0] in ("rule", "bundle"):
            return self._take_text(row)
        if words[0] not in PARTS or len(words) != 1 + len(PARTS[words[0]]):
            raise NoSaying("no words that are known")
        parts = list(zip(PARTS[words[0]], words[1:]))
        if not all([_is_part(letter, word) for letter, word in parts]):
            raise NoSaying("a name or number that is none")
        for letter, word in parts:
            if letter in "brx" and not self._holds(letter, word):
                raise NoName(word)
        return self._do(words[0], words[1:])

    def _take_text(self, row):
        word, _, behind = row.partition(" ")
        name, blank, text = behind.partition(" ")
        if not _is_name(name) or blank == "":
            raise NoSaying("no name with a text behind it")
        text = text.replace(";", "\n")
        return self._keep(name, read_rule(text) if word == "rule" else read_bundle(text))

    def _keep(self, name, thing):
        self._things[name] = thing
        return "ok"

    def _holds(self, letter, name):
        thing = self._things.get(name)
        if letter == "b":
            return isinstance(thing, Bundle)
        if letter == "r":
            return isinstance(thing, Rule)
        return thing is not None

    def _do(self, word, parts):
        things = self._things
        if word == "look":
            return self._look(things[parts[0]], things[parts[1]])
        if word == "find":
            bundle = things[parts[1]]
            return self._keep(parts[0], shown(bundle.rows, bundle.claims(), things[parts[2]]))
        if word == "pass":
            return self._keep(parts[0], passed(things[parts[1]], things[parts[2]], words=[parts[3]]))
        if word == "run":
            p = (int(parts[2]), int(parts[3]), int(parts[4]))
            return str(run(things[parts[0]].rows, things[parts[1]], p, budget=int(parts[5])))
        if word == "size":
            return str(things[parts[0]].size())
        if word == "show":
            return self._show(things[parts[0]])
        if word == "drop":
            del things[parts[0]]
            return "ok"
        return " ".join(sorted(things)) if len(things) > 0 else "-"

    def _look(self, bundle, rule):
        told = lacking(bundle, rule)
        if told is None:
            return "right"
        row, sort, number = told
        return f"{row} {sort} {number}"

    def _show(self, thing):
        if isinstance(thing, Rule):
            return rule_text(thing)
        return bundle_text(thing).replace("\n", ";")


def _is_part(letter, word):
    if letter == "p":
        return _is_number(word, -MOST_NUMBER, MOST_NUMBER)
    if letter == "m":
        return _is_number(word, 0, MOST_BUDGET)
    if letter == "w":
        return word != ""
    return _is_name(word)


def _is_name(word):
    return 1 <= len(word) <= LONGEST_NAME and all([sign in LETTERS for sign in word])


def _is_number(word, least, most):
    figures = word.removeprefix("-")
    # No number here has more figures than a million.
    if not 1 <= len(figures) <= 7 or not all([sign in FIGURES for sign in figures]):
        return False
    return str(int(word)) == word and least <= int(word) <= most
