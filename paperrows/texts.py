"""Texts of bundles, and the bundles of texts."""

from paperrows.bundles import Bundle, bundle_of, held_claims, held_papers
from paperrows.errors import NoClaims, NoPapers, NoRows, NoText
from paperrows.forms import LONGEST_NUMBER, read_number, text_of, understood
from paperrows.kinds import furthest
from paperrows.papers import MOST_WITHIN, size
from paperrows.rows import look_claims

CLAIM_NAMES = ("p0", "p1", "p2", "r0", "r1", "r2", "r3", "r4", "r5")
# The least number from 0 on that has more than four hundred figures.
TOO_GREAT = (10 ** 50) ** 8


class Reader:
    """Words or lines that are read one by one."""

    def __init__(self, parts):
        self.parts = parts
        self.at = 0

    def ahead(self):
        """Tell the part that comes next, None behind the last one."""
        return self.parts[self.at] if self.at < len(self.parts) else None

    def taken(self):
        """Tell the part that comes next, and go on behind it."""
        part = self.ahead()
        if part is None:
            raise NoText("the text ends too early")
        self.at += 1
        return part

    def taken_up_to(self, one, other):
        """Tell the parts up to one of two, or up to the last one, and go on behind them."""
        end = self.at
        while end < len(self.parts) and self.parts[end] != one and self.parts[end] != other:
            end += 1
        told = self.parts[self.at:end]
        self.at = end
        return told

    def numbers_of(self, word, many):
        """Tell so many numbers of a line that begins with this word."""
        parts = self.taken().split(" ")
        if parts[0] != word or len(parts) != 1 + many:
            raise NoText(f"no line of {word}")
        return _read_numbers(parts[1:])


def bundle_text(bundle):
    """Tell the text of a bundle."""
    claims, papers = held_claims(bundle), held_papers(bundle)
    lines = [f"rows {len(bundle.rows)}"] + [_words(row) for row in bundle.rows]
    lines.append(f"claims {len(claims)}")
    for place in sorted(claims):
        lines.append(f"at {place} {len(claims[place])}")
        lines.extend([_claim_text(form) for form in claims[place]])
    lines.append(f"papers {len(papers)}")
    for paper in papers:
        # All that is no paper is refused here, so that what follows may go by the paper's word.
        size(paper)
        lines.append(_paper_text(paper))
    return "\n".join(lines)


def read_bundle(text):
    """Tell the bundle that has this text."""
    if not isinstance(text, str):
        raise NoText("no text at all")
    lines = Reader(text.split("\n"))
    rows = tuple([_read_row(lines.taken()) for _ in range(_count(lines, "rows"))])
    claims = _read_claims(lines)
    papers = [_read_paper(lines.taken()) for _ in range(_count(lines, "papers"))]
    try:
        look_claims(rows, claims)
        bundle = bundle_of(rows, claims, papers)
        told = bundle_text(bundle)
    except (NoRows, NoClaims, NoPapers):
        raise NoText("rows, claims or papers that are none") from None
    # Many ways of writing a bundle are understood up to here; just one of them is its text.
    if told != text:
        raise NoText("a text that no bundle has")
    return bundle


def _words(parts):
    return " ".join(map(str, parts))


def _claim_text(form):
    _look_numbers(form)
    return text_of(form, CLAIM_NAMES)


def _paper_text(paper):
    word, first = paper[0], paper[1]
    if word == "sum":
        return _numbers_text(["sum"], [first, *paper[2]])
    if word == "never":
        return _numbers_text(["never"], first)
    told = f"({_numbers_text([], first)})" if word == "split" else _numbers_text([], [first])
    return f"{word} {told} {_inner_text(paper[2])} | {_inner_text(paper[3])}"


def _inner_text(paper):
    told = _paper_text(paper)
    return f"({told})" if paper[0] in ("split", "apart") else told


def _numbers_text(words, numbers):
    _look_numbers(numbers)
    return _words([*words, *numbers])


def _look_numbers(numbers):
    if len(numbers) > 0 and furthest(numbers) >= TOO_GREAT:
        raise NoPapers("a number of more than four hundred figures has no text")


def _count(lines, word):
    return lines.numbers_of(word, 1)[0]


def _read_signed(word):
    if word.startswith("-"):
        return -read_number(word.removeprefix("-"))
    return read_number(word)


def _read_numbers(words):
    # Short figures are read at once: there are very many of them.
    return [int(word) if word.isdecimal() and len(word) < LONGEST_NUMBER else _read_signed(word) for word in words]


def _read_row(line):
    word, *parts = line.split(" ")
    return (word, *_read_numbers(parts))


def _read_claims(lines):
    claims = {}
    for _ in range(_count(lines, "claims")):
        place, many = lines.numbers_of("at", 2)
        claims[place] = [understood(lines.taken(), CLAIM_NAMES) for _ in range(many)]
    return claims


def _read_paper(line):
    words = Reader(line.replace("(", "( ").replace(")", " )").split(" "))
    paper = _read_parted(words, MOST_WITHIN)
    if words.ahead() is not None:
        raise NoText("a paper with more behind it")
    return paper


def _read_parted(words, left):
    """Read a paper that is not in brackets, with at most so many splits and aparts within one another."""
    word = words.taken()
    if word == "sum":
        return word, _read_signed(words.taken()), _read_numbers(words.taken_up_to("|", ")"))
    if word == "never":
        return word, _read_numbers(words.taken_up_to("|", ")"))
    if word not in ("split", "apart") or left == 0:
        raise NoText("no paper")
    first = _read_bracketed_form(words) if word == "split" else _read_signed(words.taken())
    paper = _read_inner(words, left - 1)
    _look_word(words, "|")
    return word, first, paper, _read_inner(words, left - 1)


def _read_inner(words, left):
    if words.ahead() != "(":
        return _read_parted(words, left)
    _look_word(words, "(")
    paper = _read_parted(words, left)
    _look_word(words, ")")
    return paper


def _read_bracketed_form(words):
    _look_word(words, "(")
    numbers = _read_numbers(words.taken_up_to(")", ")"))
    _look_word(words, ")")
    return tuple(numbers)


def _look_word(words, word):
    if words.taken() != word:
        raise NoText(f"no {word} where one stands")
