"""The maker: rows, claims and papers of deeds."""

from paperrows.bundles import bundle_of
from paperrows.deeds import how_many, look_ends, steps_of
from paperrows.errors import NoArea, Unmade
from paperrows.finder import TrunkSearch
from paperrows.forms import contrary, often
from paperrows.rules import look_rule
from paperrows.trunks import trunks_of

# The names a to d are held by the registers 0 to 3; sums are reckoned in the two others.
REGISTERS = {"a": 0, "b": 1, "c": 2, "d": 3}
TOTAL = 4
OTHER = 5
# A row that does nothing but stand between two told places: its register is set again ahead of each use.
FILLER = ("set", 5, 0)
SORTS = ("first", "end", "low", "high", "keep", "behind", "ends")


class Writer:
    """Rows and claims that are being written of deeds.

    Each test and each place behind an if is a told place, and so is where the deeds of a test begin: there its keeps
    hold, and how the test came out. These deeds stand behind all others, since only they may be led to: an unlike
    is known on the way on alone.
    """

    def __init__(self):
        self.rows = []
        self.told = {}
        # The deed and the sort of what is wanted at a told place; the deed of each row that reads or writes.
        self.stations = {}
        self.deeds = {}
        self.waiting = []
        # Places that are led to, by the numbers that stand for them in rows as long as they aren't known.
        self.places = []

    def write_all(self, deeds):
        """Write all rows of deeds, a stop behind them, and the deeds of the tests that come up."""
        self._write_deeds(deeds, 0)
        self.rows.append(("stop",))
        while len(self.waiting) > 0:
            mark, claims, inner, number, back = self.waiting.pop(0)
            self._tell_place(mark, claims, None)
            self._write_deeds(inner, number)
            self.rows.append(("jump", back))

    def led_rows(self):
        """Tell the rows, each leading to the place that its mark stands for."""
        return tuple([self._led(row) for row in self.rows])

    def _led(self, row):
        if row[0] in ("jump", "below", "same"):
            return (*row[:-1], self.places[row[-1]])
        return row

    def _mark(self):
        self.places.append(None)
        return len(self.places) - 1

    def _tell_place(self, mark, claims, station):
        # No place is told twice, and the first row's is the start's.
        if len(self.rows) == 0 or len(self.rows) in self.told:
            self.rows.append(FILLER)
        place = len(self.rows)
        self.places[mark] = place
        self.told[place] = claims
        if station is not None:
            self.stations[place] = station

    def _write_deeds(self, deeds, number):
        for deed in deeds:
            if deed[0] == "let":
                self._write_let(REGISTERS[deed[1]], deed[2])
            elif deed[0] == "read":
                base = self._write_total(deed[3])
                self.deeds[len(self.rows)] = number
                self.rows.append(("read", REGISTERS[deed[1]], base, deed[3][0], deed[2]))
            elif deed[0] == "write":
                base = self._write_total(deed[2])
                self.deeds[len(self.rows)] = number
                self.rows.append(("write", base, deed[2][0], REGISTERS[deed[3]], deed[1]))
            else:
                self._write_test(deed, number)
            number += how_many(deed)

    def _write_test(self, deed, number):
        word, (sort, form), keeps, deeds = deed[:4]
        test, inner = self._mark(), self._mark()
        known = [(*keep, 0, 0) for keep in keeps]
        self._tell_place(test, known, (number, "keep"))
        base = self._write_total(form)
        # The sum is below 0, or just 0, where all but its constant is below the constant's contrary, or just that.
        self.rows.append(("set", OTHER, -form[0]))
        self.rows.append((sort, base, OTHER, inner))
        claims = known + _outcome(sort, form)
        if word == "while":
            self.waiting.append((inner, claims, deeds, number + 1, test))
            return
        behind = self._mark()
        self.waiting.append((inner, claims, deeds, number + 1, behind))
        self._write_deeds(deed[4], number + 1 + sum([how_many(one) for one in deeds]))
        self._tell_place(behind, [(*one, 0, 0) for one in deed[5]], (number, "behind"))

    def _write_let(self, holder, form):
        if not any(form[1:]):
            self.rows.append(("set", holder, form[0]))
        else:
            self.rows.append(("more", holder, self._write_total(form), form[0]))

    def _write_total(self, form):
        """Write what reckons a sum but for its constant; tell the register that holds it."""
        terms = [(holder, number) for holder, number in enumerate(form[1:]) if number != 0]
        if len(terms) == 0:
            self.rows.append(("set", TOTAL, 0))
            return TOTAL
        (holder, number), *others = terms
        if number == 1 and len(others) == 0:
            return holder
        self.rows.append(("fold", TOTAL, holder, number))
        for holder, number in others:
            if number == 1:
                self.rows.append(("plus", TOTAL, TOTAL, holder))
            elif number == -1:
                self.rows.append(("minus", TOTAL, TOTAL, holder))
            else:
                self.rows.append(("fold", OTHER, holder, number))
                self.rows.append(("plus", TOTAL, TOTAL, OTHER))
        return TOTAL


def made(deeds, rule):
    """Tell the bundle of deeds that a rule lets by."""
    steps = steps_of(deeds)
    look_rule(rule)
    look_ends(rule)
    _look_deed_areas(steps, rule)
    writer = Writer()
    writer.write_all(deeds)
    rows = writer.led_rows()
    papers, lacking = _papers_of(trunks_of(rows, writer.told, rule), writer, steps.many)
    if len(lacking) > 0:
        deed, rank = min(lacking)
        raise Unmade(deed, SORTS[rank])
    return bundle_of(rows, writer.told, papers)


def _look_deed_areas(steps, rule):
    for step in steps.steps:
        if step[0] not in ("read", "write"):
            continue
        if step[4] >= len(rule.areas) or (step[0] == "write" and rule.areas[step[4]][2] == "read"):
            raise NoArea(step[1])


def _papers_of(trunks, writer, many):
    """Tell the papers of all wants, and of those without one the deeds with the numbers of their sorts."""
    papers, lacking = [], []
    for trunk in trunks:
        search = TrunkSearch(trunk)
        for group in trunk.groups:
            told = search.found(group)
            papers.extend(told)
            for number, paper in enumerate(told):
                if paper is None:
                    deed, sort = _want_of(group, number, writer, many)
                    lacking.append((deed, SORTS.index(sort)))
    return papers, lacking


def _want_of(group, number, writer, many):
    """Tell the deed and the sort of a want of rows."""
    if group.target is not None:
        return writer.stations[group.target]
    if group.at in writer.deeds:
        return writer.deeds[group.at], group.sorts[number]
    return many, "ends"


def _outcome(sort, form):
    """Tell the claims that hold where a test is so."""
    told = (form[0], 0, 0, 0, *form[1:], 0, 0)
    if sort == "below":
        return [contrary(told)]
    return [told, often(told, -1)]
