"""The refusals of the program, each a kind of failure of its own."""


class Wrong(ValueError):
    """What was handed in is not of the kind that is due."""


class NoForm(Wrong):
    """No form, or forms that do not go together."""


class NoText(Wrong):
    """A text that is the text of nothing."""


class NoRule(Wrong):
    """No rule."""


class NoStart(Wrong):
    """No start of the rule."""


class NoNumber(Wrong):
    """No number of the kind that is due."""


class NoNames(Wrong):
    """No new names of the registers 3, 4 and 5."""


class NoPapers(Wrong):
    """No papers."""


class NoSaying(Wrong):
    """No row of text that the desk knows."""


class NoRows(Wrong):
    """No rows; `at` is the place of the first thing that is none."""

    def __init__(self, at):
        super().__init__(f"no rows: see place {at}")
        self.at = at


class NoClaims(Wrong):
    """No claims of the rows; `at` is the place that is wrong, None where no dict by places was handed in."""

    def __init__(self, at):
        super().__init__(f"no claims: see place {at}")
        self.at = at


class NoArea(Wrong):
    """An area that the rule hasn't, or doesn't let write; `at` is the place of the row or the number of the deed."""

    def __init__(self, at):
        super().__init__(f"no such area for number {at}")
        self.at = at


class NoDeeds(Wrong):
    """No deeds; `at` is the number of the first deed that is none."""

    def __init__(self, at):
        super().__init__(f"no deeds: see deed {at}")
        self.at = at


class NoPass(Wrong):
    """No list of passes; `at` is the first wrong place, None where no list was handed in."""

    def __init__(self, at):
        super().__init__(f"no pass: see place {at}")
        self.at = at


class Unshown(LookupError):
    """A want of rows for which no paper is found."""

    def __init__(self, row, kind, number):
        super().__init__(f"no paper found: row {row}, {kind}, want {number}")
        self.row = row
        self.kind = kind
        self.number = number


class Unlet(RuntimeError):
    """A bundle that the looker does not let by."""

    def __init__(self, row, kind, number):
        super().__init__(f"not let by: row {row}, {kind}, want {number}")
        self.row = row
        self.kind = kind
        self.number = number


class Unmade(ArithmeticError):
    """Deeds of which no bundle is made."""

    def __init__(self, deed, kind):
        super().__init__(f"not made: deed {deed}, {kind}")
        self.deed = deed
        self.kind = kind


class NoName(KeyError):
    """A name that stands for nothing, or for another kind of thing."""

    def __init__(self, name):
        super().__init__(f"no such name: {name}")
        self.name = name
