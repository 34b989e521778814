"""Forms: sums of a constant and a number for each unknown, and their texts."""

from paperrows.errors import NoForm, NoText
from paperrows.kinds import are_whole, is_form, is_sequence, is_whole

LETTERS = "abcdefghijklmnopqrstuvwxyz"
FIGURES = "0123456789"
LONGEST_NAME = 8
LONGEST_NUMBER = 400


def worth(form, worths):
    """Tell what a form comes to where its unknowns have these worths."""
    _look_form(form)
    if not is_sequence(worths) or not are_whole(worths):
        raise NoForm("the worths are no whole numbers")
    if len(worths) != len(form) - 1:
        raise NoForm("not one worth for each unknown")
    return form[0] + sum([number * its_worth for number, its_worth in zip(form[1:], worths)])


def holds_at(form, worths):
    """Tell whether a form is 0 or more where its unknowns have these worths."""
    return worth(form, worths) >= 0


def added(one, other):
    """Tell the sum of two forms."""
    _look_form(one)
    _look_form(other)
    if len(one) != len(other):
        raise NoForm("the forms are not as long as one another")
    return tuple([number + further for number, further in zip(one, other)])


def often(form, many):
    """Tell a form, taken so many times."""
    _look_form(form)
    if not is_whole(many):
        raise NoForm("so often is no whole number")
    return tuple([number * many for number in form])


def less(form, other):
    """Tell a form from which another one is taken."""
    return added(form, often(other, -1))


def contrary(form):
    """Tell the form that holds just where this one doesn't."""
    # All worths are whole numbers, so below 0 is -1 or less.
    told = often(form, -1)
    return (told[0] - 1,) + told[1:]


def led(form, others):
    """Tell a form in which another one stands in the place of each unknown."""
    _look_form(form)
    if not is_sequence(others) or len(others) != len(form) - 1:
        raise NoForm("not one form for each unknown")
    for other in others:
        _look_form(other)
    if len(others) == 0:
        return form
    length = len(others[0])
    told = [form[0]] + [0] * (length - 1)
    for number, other in zip(form[1:], others):
        if len(other) != length:
            raise NoForm("the forms are not as long as one another")
        if number != 0:
            told = [taken + number * further for taken, further in zip(told, other)]
    return tuple(told)


def form_text(form, *, names):
    """Tell the text of a form whose unknowns have these names."""
    _look_form(form)
    _look_names(names)
    if len(names) != len(form) - 1:
        raise NoForm("not one name for each unknown")
    return text_of(form, names)


def read_form(text, *, names):
    """Tell the form that has this text by these names of its unknowns."""
    _look_names(names)
    if not isinstance(text, str):
        raise NoText("no text at all")
    form = understood(text, names)
    # Many ways of writing a form are understood up to here; just one of them is its text.
    if text_of(form, names) != text:
        raise NoText("a text that no form has")
    return form


def text_of(form, names):
    """Tell the text of what is known to be a form, by what are known to be its names."""
    terms = [_term_text(number, name) for number, name in zip(form[1:], names) if number != 0]
    if form[0] != 0 or len(terms) == 0:
        terms.append(str(form[0]))
    if len(terms) == 1:
        return terms[0]
    return terms[0] + "".join([_further_text(term) for term in terms[1:]])


def understood(text, names):
    """Tell a form by a text that may be written in other ways than a form's text is; refuse what isn't understood."""
    places = {name: at + 1 for at, name in enumerate(names)}
    numbers = [0] * (len(names) + 1)
    for term in _signed_terms(text):
        number, name = _read_term(term, places)
        numbers[places.get(name, 0)] += number
    return tuple(numbers)


def read_number(figures):
    """Tell the number, from 0 on, that is written by at most four hundred figures."""
    if len(figures) > LONGEST_NUMBER or not (figures.isdecimal() and figures.isascii()):
        raise NoText("no number of at most four hundred figures")
    return int(figures)


def _look_form(form):
    if not is_form(form):
        raise NoForm("no form")


def _look_names(names):
    if not isinstance(names, list) or not all([_is_name(name) for name in names]):
        raise NoForm("no list of names")
    if len(set(names)) != len(names):
        raise NoForm("two unknowns have the same name")


def _is_name(name):
    if not isinstance(name, str) or not 1 <= len(name) <= LONGEST_NAME:
        return False
    return name[0] in LETTERS and all([sign in LETTERS or sign in FIGURES for sign in name])


def _term_text(number, name):
    if number == 1:
        return name
    if number == -1:
        return "-" + name
    return f"{number}*{name}"


def _further_text(term):
    if term.startswith("-"):
        return " - " + term[1:]
    return " + " + term


def _signed_terms(text):
    words = text.split(" ")
    terms = [words[0]]
    for sign, term in zip(words[1::2], words[2::2]):
        terms.append("-" + term if sign == "-" else term)
    return terms


def _read_term(term, places):
    """Tell a term's number and its unknown's name, None for the constant."""
    sign = -1 if term.startswith("-") else 1
    rest = term.removeprefix("-")
    if rest in places:
        return sign, rest
    figures, star, name = rest.partition("*")
    if star == "":
        return sign * read_number(figures), None
    if name not in places:
        raise NoText("a name that no unknown has")
    return sign * read_number(figures), name
