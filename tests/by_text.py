"""Rules, claims and deeds by texts, for tests."""

from reference import form_of

P = ["p0", "p1", "p2"]


def total(text):
    return form_of(text, ["a", "b", "c", "d"])


def keeps(*texts):
    return [form_of(text, [*P, "a", "b", "c", "d"]) for text in texts]


def given(*texts):
    return [form_of(text, P) for text in texts]


def claims(*texts):
    """Claims, or ends."""
    return [form_of(text, [*P, "r0", "r1", "r2", "r3", "r4", "r5"]) for text in texts]


def area(first, end, rights, *bounds):
    low, high = given(*bounds) if bounds else (None, None)
    return (*given(first, end), rights, low, high)


def let(name, text):
    return ("let", name, total(text))


def read(name, number, text):
    return ("read", name, number, total(text))


def write(number, text, name):
    return ("write", number, total(text), name)


def below(text):
    return ("below", total(text))


def same(text):
    return ("same", total(text))


def if_so(test, kept, deeds, others=(), behind=()):
    return ("if", test, keeps(*kept), tuple(deeds), tuple(others), keeps(*behind))


def while_so(test, kept, *deeds):
    return ("while", test, keeps(*kept), tuple(deeds))
