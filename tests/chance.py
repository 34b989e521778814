"""Rules, deeds, rows, claims and papers by chance, for tests: each takes a random.Random with a seed of its own."""

from paperrows.finder import found
from paperrows.forms import contrary
from paperrows.rules import Rule
from paperrows.wants import wants

LEADS = ("jump", "below", "same")


def small_form(chance, most=3):
    return (chance.randint(-1, most), *[chance.choice((0, 0, 0, 1, -1)) for _ in range(3)])


def deed_rule(chance):
    """A rule with small areas, as deeds may want one."""
    areas = []
    for _ in range(chance.choice((0, 1, 1, 2, 3))):
        bounds = (None, None)
        if chance.random() < 0.5:
            bounds = ((-chance.randint(0, 3), 0, 0, 0), (chance.randint(0, 3), 0, 0, 0))
        elif chance.random() < 0.3:
            bounds = (small_form(chance), small_form(chance))
        areas.append((small_form(chance), small_form(chance), chance.choice(("both", "both", "read")), *bounds))
    given = [small_form(chance) for _ in range(chance.choice((0, 0, 1, 2)))]
    ends = [(chance.choice((0, 1)), *[chance.choice((0, 0, 1, -1)) for _ in range(7)], 0, 0)
            for _ in range(chance.choice((0, 0, 1, 2)))]
    return Rule(given, areas, ends)


class Deeds:
    """Deeds by chance, at most so many."""

    def __init__(self, chance, many):
        self.chance = chance
        self.left = chance.randint(0, many)

    def total(self):
        chance = self.chance
        return (chance.randint(-3, 3), *[chance.choice((0, 0, 0, 1, 1, -1, 2)) for _ in range(4)])

    def keeps(self):
        chance = self.chance
        return [(chance.choice((0, 1, -1, 3)), *[chance.choice((0, 0, 0, 1, -1)) for _ in range(7)])
                for _ in range(chance.choice((0, 0, 1, 2)))]

    def all(self, depth=1):
        told, chance = [], self.chance
        while self.left > 0 and chance.random() < 0.75:
            self.left -= 1
            words = ("let", "let", "read", "write", "if", "while") if depth < 4 else ("let", "read", "write")
            told.append(self.one(chance.choice(words), depth))
        return tuple(told)

    def one(self, word, depth):
        chance, name, area = self.chance, self.chance.choice("abcd"), self.chance.choice((0, 0, 1, 2))
        if word == "let":
            return (word, name, self.total())
        if word == "read":
            return (word, name, area, self.total())
        if word == "write":
            return (word, area, self.total(), name)
        test = (chance.choice(("below", "same")), self.total())
        if word == "while":
            return (word, test, self.keeps(), self.all(depth + 1))
        return (word, test, self.keeps(), self.all(depth + 1), self.all(depth + 1), self.keeps())


def whittled(chance, rows, claims, rule):
    """Rows, claims and papers: what no paper shows is taken away, till all is shown; None where that fails."""
    rows = list(rows)
    for _ in range(80):
        papers, lacking = [], None
        told = wants(tuple(rows), claims, rule)
        for number, (at, sort, hints, unlikes, goal) in enumerate(told):
            papers.append(found(hints, unlikes, goal))
            if papers[-1] is None:
                lacking = (number, at, sort)
                break
        if lacking is None:
            return tuple(rows), claims, papers, told
        number, at, sort = lacking
        if sort == "ends":
            return None
        if sort == "claim":
            place, k = ways_claims(rows, claims, at)[len([one for one in told[:number] if one[:2] == (at, sort)])]
            del claims[place][k]
        else:
            rows[at] = ("set", chance.randint(0, 5), chance.randint(-2, 2))
    return None


def ways_claims(rows, claims, at):
    """The claims that are wanted of a row's ways: their places and numbers."""
    word, told = rows[at][0], []
    if word in LEADS:
        told += [(rows[at][-1], k) for k in range(len(claims[rows[at][-1]]))]
    if word not in ("jump", "stop") and at + 1 in claims:
        told += [(at + 1, k) for k in range(len(claims[at + 1]))]
    return told


def claim(chance, places):
    told = [0] * 10
    for _ in range(chance.choice((1, 1, 2, 2, 3))):
        told[chance.choice(places)] = chance.choice((1, -1, 1, -1, 2, 3))
    told[0] = chance.randint(-3, 4)
    return tuple(told)


def rows_by_chance(chance, leading, most):
    """Rows with claims that are shown, by a rule: rows, claims, papers, rule, wants; None where none come out."""
    many = chance.randint(1, most)

    def target():
        return chance.randint(1, max(1, many - 1))

    def row():
        one, other, third = [chance.choice((0, 1, 2, 3, 3, 4, 5)) for _ in range(3)]
        number = chance.randint(-2, 3)
        if chance.random() < leading:
            return chance.choice((("jump", target()), ("jump", target()), ("below", one, other, target()),
                                  ("same", one, other, target()), ("stop",)))
        return chance.choice((
            ("set", one, number), ("set", one, number), ("copy", one, other), ("plus", one, other, third),
            ("minus", one, other, third), ("more", one, other, number), ("more", one, one, number),
            ("fold", one, other, number), ("read", one, other, number, 0), ("write", one, number, other, 1),
            ("below", one, other, target()), ("same", one, other, target()),
        ))

    rows = [row() for _ in range(many)]
    rows[-1] = ("jump", target()) if many > 1 and chance.random() < 0.3 else ("stop",)
    given = [(0, 1, 0, 0), *chance.sample([(0, 0, 1, 0), (-1, 1, 0, 0), (0, -1, 1, 0), (0, 0, 0, 1), (2, 0, 0, -1)],
                                          chance.randint(0, 3))]
    areas = [((0, 0, 0, 0), (3, 1, 0, 0), "both", (-5, 0, 0, 0), (5, 0, 0, 0)), ((9, 1, 0, 0), (20, 2, 0, 0), "both", None, None)]
    ends = [claim(chance, range(1, 10)) for _ in range(chance.choice((0, 0, 1)))]
    places = {row[-1] for row in rows if row[0] in LEADS} | {at for at in range(1, many) if chance.random() < 0.15}
    claims = {at: [claim(chance, range(1, 10)) for _ in range(chance.randint(0, 6))] for at in places}
    for at in claims:
        if chance.random() < 0.06:
            claims[at] = [(-1,) + (0,) * 9] + claims[at]
    told = whittled(chance, rows, claims, Rule(given, areas, ends))
    return told and (*told[:3], Rule(given, areas, ends), told[3])


class Chain:
    """Rows behind a told place that nobody comes to, so that any claims hold there, with jumps from place to place.

    What the further places claim follows from what is claimed at the ones ahead, by several hints, by unlikes, by
    sums with a k above 1.
    """

    def __init__(self, chance):
        self.chance = chance
        self.rows = [("stop",)]
        self.claims = {}
        self.ahead = []
        self.marks = 0
        given = chance.choice(([], [(0, 1, 0, 0)], [(0, 1, 0, 0), (0, -1, 1, 0)]))
        self.facts = [form + (0,) * 6 for form in given]
        self.rule = Rule(given, [], [(chance.randint(0, 2),) + (0,) * 9] if chance.random() < 0.5 else [])

    def follows(self, hints, unlikes):
        """A form that follows, or is close to that."""
        chance = self.chance
        if unlikes and chance.random() < 0.3:
            unlike, side = chance.choice(unlikes), chance.choice((1, -1))
            return (side * unlike[0] - 1, *[side * number for number in unlike[1:]])
        told = [chance.randint(0, 2)] + [0] * 9
        for hint in chance.sample(hints, min(len(hints), chance.choice((0, 1, 1, 2, 3)))):
            often = chance.choice((1, 1, 2))
            told = [number + often * further for number, further in zip(told, hint)]
        for k in (3, 2):
            if any(told[1:]) and all(number % k == 0 for number in told[1:]) and chance.random() < 0.7:
                return tuple(number // k for number in told)
        return tuple(told)

    def mark(self, hints, unlikes, depth):
        """A place that is led to and comes later."""
        self.marks += 1
        name = f"mark{self.marks}"
        claims = [self.follows(hints, unlikes) for _ in range(self.chance.choice((0, 1, 2, 3, 8)))]
        self.ahead.append((name, claims, depth + 1))
        return name

    def block(self, claims, depth):
        chance, hints, unlikes = self.chance, self.facts + claims, []
        for _ in range(chance.choice((0, 0, 1, 3, 5))):
            if chance.random() < 0.4:
                self.rows.append(chance.choice((("set", 5, 2), ("copy", 4, 0), ("plus", 5, 4, 1), ("more", 5, 5, 1))))
                continue
            one, other = chance.sample(range(4), 2)
            form = tuple(int(at == 4 + one) - int(at == 4 + other) for at in range(10))
            if chance.random() < 0.6:
                self.rows.append(("below", one, other, self.mark(hints + [contrary(form)], unlikes, depth)))
                hints = hints + [form]
            else:
                both = [form, tuple(-number for number in form)]
                self.rows.append(("same", one, other, self.mark(hints + both, unlikes, depth)))
                unlikes = unlikes + [form]
        end = chance.random() < 0.4 or depth > 5
        self.rows.append(("stop",) if end else ("jump", self.mark(hints, unlikes, depth)))

    def all(self):
        chance, places = self.chance, {}
        claims = [claim(chance, range(1, 8)) for _ in range(chance.randint(0, 5))]
        claims += [tuple(-number for number in one) for one in claims[:1] if chance.random() < 0.4]
        self.ahead.append(("first", claims, 0))
        while self.ahead:
            name, claims, depth = self.ahead.pop(0)
            places[name] = len(self.rows)
            self.claims[len(self.rows)] = claims
            if len(self.rows) > 40:
                self.rows.append(("stop",))
            else:
                self.block(claims, depth)
        rows = [(*row[:-1], places[row[-1]]) if row[0] in LEADS else row for row in self.rows]
        told = whittled(chance, rows, self.claims, self.rule)
        return told and (*told[:3], self.rule, told[3])


def chain_by_chance(chance):
    return Chain(chance).all()


class Papers:
    """Other papers of wants: with splits and aparts, nevers wherever there are some, and greater numbers."""

    def __init__(self, chance, depth, nevers):
        self.chance = chance
        self.depth = depth
        self.nevers = nevers

    def of(self, told):
        return [self.one(hints, unlikes, goal, self.chance.choice((0, 0, self.depth)))
                for _, _, hints, unlikes, goal in told]

    def one(self, hints, unlikes, goal, left):
        chance = self.chance
        never = self.least_never(hints, len(goal)) if chance.random() < self.nevers else None
        if never is not None:
            return never
        if left > 0 and chance.random() < 0.4:
            form = chance.choice([goal, *hints]) if chance.random() < 0.5 else self.form(len(goal))
            return ("split", form, self.one(hints + [form], unlikes, goal, left - 1),
                    self.one(hints + [contrary(form)], unlikes, goal, left - 1))
        if left > 0 and unlikes and chance.random() < 0.5:
            j = chance.randrange(len(unlikes))
            above = (unlikes[j][0] - 1, *unlikes[j][1:])
            return ("apart", j, self.one(hints + [above], unlikes, goal, left - 1),
                    self.one(hints + [contrary(unlikes[j])], unlikes, goal, left - 1))
        paper, often = found(hints, unlikes, goal), chance.choice((1, 1, 1, 2, 7, 10 ** 45))
        if paper[0] == "sum":
            return ("sum", often * paper[1], [often * weight for weight in paper[2]])
        return paper

    def least_never(self, hints, length):
        """The never of as few first hints as there is one of."""
        for many in range(len(hints) + 1):
            paper = found(hints[:many], [], (-1,) + (0,) * (length - 1))
            if paper is not None:
                return ("never", paper[1] + [0] * (len(hints) - many)) if paper[0] == "never" else None
        return None

    def form(self, length):
        told = [0] * length
        told[self.chance.randrange(length)] = self.chance.choice((1, -1))
        told[0] = self.chance.randint(-3, 3)
        return tuple(told)
