"""What the document says of wants, papers and deeds, written once more in another, slower way: tests ask it."""

from paperrows.forms import added, contrary, led, often


def form_of(text, names):
    """A form by any sum of its unknowns' names, with `*` behind numbers."""
    def at(unknown):
        return eval(text, {name: int(name == unknown) for name in names})
    return (at(None), *[at(name) - at(None) for name in names])


def taken(form, other):
    return added(form, often(other, -1))


def trunk_of(rows, claims, beginning):
    """The places of a trunk's rows."""
    told = [beginning]
    while rows[told[-1]][0] not in ("jump", "stop") and told[-1] + 1 not in claims:
        told.append(told[-1] + 1)
    return told


def beginnings_of(claims):
    return [0, *sorted(claims)]


class Trunk:
    """A trunk's registers, hints and unlikes, as tuples of numbers."""

    def __init__(self, rows, claims, rule, beginning):
        self.rows, self.claims, self.rule = rows, claims, rule
        self.places = trunk_of(rows, claims, beginning)
        self.length = 10 + sum(rows[at][0] == "read" for at in self.places)
        self.p = [self.unknown(at) for at in (1, 2, 3)]
        self.registers = self.p + [self.number(0)] * 3
        self.hints = [self.long(fact) for fact in rule.facts()]
        self.unlikes = []
        self.reads = 0
        if beginning > 0:
            self.registers = [self.unknown(at) for at in range(4, 10)]
            self.hints += [self.here(claim) for claim in claims[beginning]]

    def number(self, number):
        return (number,) + (0,) * (self.length - 1)

    def unknown(self, at):
        return tuple(int(place == at) for place in range(self.length))

    def long(self, form):
        return form + (0,) * (self.length - len(form))

    def here(self, form):
        return led(form, self.p + self.registers)

    def wants(self):
        told = []
        for at in self.places:
            told += self.row_wants(at, self.rows[at])
        return told

    def row_wants(self, at, row):
        told, word = [], row[0]
        r = self.registers

        def want(sort, goals, hints=None):
            for goal in goals:
                told.append((at, sort, list(self.hints if hints is None else hints), list(self.unlikes), goal))

        if word in ("read", "write"):
            place = added(r[row[2]], self.number(row[3])) if word == "read" else added(r[row[1]], self.number(row[2]))
            first, end, _, low, high = self.rule.areas[row[4]]
            want("first", [taken(place, self.long(first))])
            want("end", [taken(added(self.long(end), self.number(-1)), place)])
            if word == "write" and low is not None:
                want("low", [taken(r[row[3]], self.long(low))])
                want("high", [taken(self.long(high), r[row[3]])])
            if word == "read":
                r[row[1]] = self.unknown(10 + self.reads)
                self.reads += 1
                if low is not None:
                    self.hints += [taken(r[row[1]], self.long(low)), taken(self.long(high), r[row[1]])]
        elif word == "jump":
            want("claim", [self.here(claim) for claim in self.claims[row[1]]])
        elif word in ("below", "same"):
            one, other = taken(r[row[1]], r[row[2]]), taken(r[row[2]], r[row[1]])
            further = [added(other, self.number(-1))] if word == "below" else [one, other]
            want("claim", [self.here(claim) for claim in self.claims[row[3]]], self.hints + further)
            (self.hints if word == "below" else self.unlikes).append(one)
        elif word == "stop":
            want("ends", [self.here(end) for end in self.rule.ends])
        else:
            self.set(row)
        if word not in ("jump", "stop") and at + 1 in self.claims:
            want("claim", [self.here(claim) for claim in self.claims[at + 1]])
        return told

    def set(self, row):
        r, (word, d) = self.registers, row[:2]
        if word == "set":
            r[d] = self.number(row[2])
        elif word == "copy":
            r[d] = r[row[2]]
        elif word == "plus":
            r[d] = added(r[row[2]], r[row[3]])
        elif word == "minus":
            r[d] = taken(r[row[2]], r[row[3]])
        elif word == "more":
            r[d] = added(r[row[2]], self.number(row[3]))
        else:
            r[d] = often(r[row[2]], row[3])


def wants_of(rows, claims, rule):
    told = []
    for beginning in beginnings_of(claims):
        told += Trunk(rows, claims, rule, beginning).wants()
    return told


def shown_by(paper, hints, unlikes, goal, left=10):
    """Whether a paper, by its form known to be one, shows a goal."""
    if paper[0] in ("sum", "never"):
        k, weights = (paper[1], paper[2]) if paper[0] == "sum" else (0, paper[1])
        if len(weights) != len(hints) or min(weights, default=0) < 0 or (paper[0] == "sum" and k < 1):
            return False
        rest = often(goal, k)
        for hint, weight in zip(hints, weights):
            rest = taken(rest, often(hint, weight))
        return not any(rest[1:]) and (rest[0] > -k if paper[0] == "sum" else rest[0] > 0)
    if left == 0:
        return False
    if paper[0] == "split":
        if len(paper[1]) != len(goal):
            return False
        both = (paper[1], contrary(paper[1]))
    else:
        if not 0 <= paper[1] < len(unlikes):
            return False
        unlike = unlikes[paper[1]]
        both = (taken(unlike, (1,) + (0,) * (len(goal) - 1)), contrary(unlike))
    return all(shown_by(one, hints + [form], unlikes, goal, left - 1) for one, form in zip(paper[2:], both))


def lacking_of(bundle, rule):
    papers, told = bundle.papers(), wants_of(bundle.rows, bundle.claims(), rule)
    for number, (row, sort, hints, unlikes, goal) in enumerate(told):
        if number >= len(papers) or not shown_by(papers[number], hints, unlikes, goal):
            return row, sort, number
    return (-1, "more", len(told)) if len(papers) > len(told) else None


def leaves_of(paper):
    return [paper] if paper[0] in ("sum", "never") else leaves_of(paper[2]) + leaves_of(paper[3])


def depth_of(paper):
    return 0 if paper[0] in ("sum", "never") else 1 + max(depth_of(paper[2]), depth_of(paper[3]))


def greatest_of(papers):
    """The greatest k or weight of papers."""
    leaves = [leaf for paper in papers for leaf in leaves_of(paper)]
    return max([0, *[number for leaf in leaves for number in leaf[-1]], *[one[1] for one in leaves if one[0] == "sum"]])


def ways_on(rows, at):
    row = rows[at]
    if row[0] == "stop":
        return []
    if row[0] == "jump":
        return [row[1]]
    return [row[3], at + 1] if row[0] in ("below", "same") else [at + 1]


def papers_by_row(bundle, rule):
    """For each place of a row, its wants with their papers."""
    told = {}
    for want, paper in zip(wants_of(bundle.rows, bundle.claims(), rule), bundle.papers()):
        told.setdefault(want[0], []).append((want, paper))
    return told


class DeedWants:
    """What is wanted of deeds: forms are dicts of numbers by unknowns' names, the constant by ``."""

    SORTS = ("first", "end", "low", "high", "keep", "behind", "ends")

    def __init__(self, deeds, rule):
        self.rule = rule
        self.fresh = 0
        self.told = []
        self.facts = [self.of_p(fact) for fact in rule.facts()]
        at = {"a": {"p0": 1}, "b": {"p1": 1}, "c": {"p2": 1}, "d": {}}
        last = self.walk(deeds, 0, (at, list(self.facts), []))
        for end in rule.ends:
            self.want(self.many(deeds), "ends", last, self.of_all(end[:8], last[0]))

    def many(self, deeds):
        return sum(1 + sum(self.many(part) for part in deed[3:5] if isinstance(part, tuple) and deed[0] in ("if", "while"))
                   for deed in deeds)

    def unknown(self):
        self.fresh += 1
        return {f"x{self.fresh}": 1}

    @staticmethod
    def plus(one, other, often=1):
        told = dict(one)
        for name, number in other.items():
            told[name] = told.get(name, 0) + often * number
        return {name: number for name, number in told.items() if number}

    def of_p(self, form):
        return self.of_all(form + (0,) * 4, {})

    def of_all(self, form, at):
        told = {"": form[0]} if form[0] else {}
        for number, name in zip(form[1:4], ("p0", "p1", "p2")):
            told = self.plus(told, {name: 1}, number)
        for number, name in zip(form[4:], "abcd"):
            told = self.plus(told, at.get(name, {}), number)
        return told

    def of_sum(self, form, at):
        return self.of_all((form[0], 0, 0, 0, *form[1:]), at)

    def want(self, deed, sort, known, goal):
        self.told.append((deed, self.SORTS.index(sort), list(known[1]), list(known[2]), goal))

    def station(self, keeps):
        at = {name: self.unknown() for name in "abcd"}
        return at, self.facts + [self.of_all(keep, at) for keep in keeps], []

    def walk(self, deeds, number, known):
        for deed in deeds:
            if deed[0] == "let":
                known[0][deed[1]] = self.of_sum(deed[2], known[0])
            elif deed[0] in ("read", "write"):
                self.use(deed, number, known)
            else:
                known = self.test(deed, number, known)
            number += self.many((deed,))
        return known

    def use(self, deed, number, known):
        area, form = (deed[2], deed[3]) if deed[0] == "read" else (deed[1], deed[2])
        place = self.of_sum(form, known[0])
        first, end, _, low, high = self.rule.areas[area]
        self.want(number, "first", known, self.plus(place, self.of_p(first), -1))
        self.want(number, "end", known, self.plus(self.plus(self.of_p(end), {"": -1}), place, -1))
        if deed[0] == "read":
            known[0][deed[1]] = self.unknown()
        bounds = []
        if low is not None:
            worth = known[0][deed[1] if deed[0] == "read" else deed[3]]
            bounds = [self.plus(worth, self.of_p(low), -1), self.plus(self.of_p(high), worth, -1)]
        if deed[0] == "read":
            known[1].extend(bounds)
        else:
            for sort, goal in zip(("low", "high"), bounds):
                self.want(number, sort, known, goal)

    def test(self, deed, number, known):
        word, (sort, form), keeps, deeds = deed[:4]
        self.come(number, "keep", keeps, known)
        at, hints, _ = self.station(keeps)
        total = self.of_sum(form, at)
        below = self.plus({"": -1}, total, -1)
        so = [below] if sort == "below" else [total, self.plus({}, total, -1)]
        inner = self.walk(deeds, number + 1, (dict(at), hints + so, []))
        other = (dict(at), hints + ([total] if sort == "below" else []), [] if sort == "below" else [total])
        if word == "while":
            self.come(number, "keep", keeps, inner)
            return other
        self.come(number, "behind", deed[5], inner)
        self.come(number, "behind", deed[5], self.walk(deed[4], number + 1 + self.many(deeds), other))
        return self.station(deed[5])

    def come(self, number, sort, keeps, known):
        for keep in keeps:
            self.want(number, sort, known, self.of_all(keep, known[0]))

    def lacking(self, found):
        """The least deed, and its first sort, of a want without a paper; None where there is none."""
        bad = []
        for deed, rank, hints, unlikes, goal in self.told:
            names = sorted({name for form in [*hints, *unlikes, goal] for name in form} - {""})

            def tuples(forms):
                return [tuple(form.get(name, 0) for name in ["", *names]) for form in forms]
            if found(tuples(hints), tuples(unlikes), tuples([goal])[0]) is None:
                bad.append((deed, rank))
        return (min(bad)[0], self.SORTS[min(bad)[1]]) if bad else None
