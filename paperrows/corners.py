"""Corners: a place is looked for at which forms hold, all of them, or else weights by which they never do."""

from math import gcd

# After so many moves in a row that gain nothing, the moves are chosen so that no corner comes again.
PATIENCE = 20


class Hints:
    """Forms that are asked for what they come to all at once: by their constants, and by each unknown's numbers."""

    def __init__(self, forms, many):
        self.forms = forms
        self.constants = [form[0] for form in forms]
        self.numbers = list(zip(*forms))[1:] if len(forms) > 0 else [()] * many
        self.least = min(self.constants, default=0)

    def with_one(self, form):
        """Tell these forms with one more behind them."""
        return Hints([*self.forms, form], len(form) - 1)

    def worths_at(self, corner):
        """Tell what each form comes to at a corner, so often as the divisor is."""
        told = [constant * corner.divisor for constant in self.constants]
        for numbers, row in zip(self.numbers, corner.rows):
            worth = row[-1]
            if worth != 0:
                told = [taken + number * worth for taken, number in zip(told, numbers)]
        return told


class Corner:
    """A place of the unknowns, told by forms that come to just 0 there.

    Each unknown is a row: a number for each column, then its own worth at the corner, all over one divisor.
    A column stands for a form that is 0 at the corner, or, while it is free, for an unknown that is 0 there.
    The costs tell by columns, over the divisor, the sum of some of those forms. None of them is ever below 0,
    so this sum is the least at the corner as far as the columns' forms hold, and each move lets it grow or stay.
    """

    def __init__(self, many):
        self.divisor = 1
        self.rows = [[1 if column == at else 0 for column in range(many + 1)] for at in range(many)]
        self.columns = [None] * many
        self.costs = [0] * (many + 1)

    def worth_here(self, form):
        """Tell what a form comes to at the corner, so often as the divisor is."""
        return form[0] * self.divisor + sum([number * row[-1] for number, row in zip(form[1:], self.rows)])

    def row_of(self, form):
        """Tell a form as a row over the columns."""
        told = [0] * len(self.columns) + [form[0] * self.divisor]
        for number, row in zip(form[1:], self.rows):
            if number != 0:
                told = [taken + number * further for taken, further in zip(told, row)]
        return told

    def moved(self, row, column, number):
        """Tell the corner where a form, with this row and number, comes to 0, in the place of a column's form."""
        told = Corner(0)
        told.divisor = abs(row[column])
        # Where the divisor stays, just what hangs on the column is changed.
        is_same = told.divisor == self.divisor
        for other in self.rows:
            told.rows.append(other if is_same and other[column] == 0 else self._moved(other, row, column))
        told.costs = self._moved(self.costs, row, column)
        told.columns = list(self.columns)
        told.columns[column] = number
        if self.columns[column] is None:
            # The form is one of those whose sum the costs tell, from now on.
            told.costs[column] = told.divisor
        return told

    def _moved(self, other, row, column):
        pivot, taken, divisor = abs(row[column]), other[column], self.divisor
        if row[column] < 0:
            taken = -taken
        # All numbers are determinants of the forms' numbers, as is the divisor, so there is never a rest.
        told = [(number * pivot - taken * further) // divisor for number, further in zip(other, row)]
        told[column] = taken
        return told


class Chase:
    """A goal's contrary and hints, and a corner that is moved to where all of them hold, till they never do."""

    def __init__(self, contrary, hints, corner):
        self.contrary = contrary
        self.hints = hints
        self.corner = corner

    def weights_on(self):
        """Move the corner to where all forms hold, and tell None; or tell weights by which they never do.

        The weights are from 0 on, the contrary's first: so often taken, the forms come to 0 for each unknown, and a
        constant below 0.
        """
        return self._weights_from(_broken(self.corner, self.contrary, self.hints, False), 0)

    def weights_anew(self):
        """Do the same with a new corner, where mostly one move, and that by the contrary, is enough."""
        contrary, hints = self.contrary, self.hints
        constant = contrary[0]
        if constant >= 0 or constant > hints.least:
            return self.weights_on()
        numbers = [(abs(number), at) for at, number in enumerate(contrary[1:]) if number != 0]
        if len(numbers) == 0:
            return [1] + [0] * len(hints.forms)
        # The contrary comes to 0 by one unknown, and then one of the hints is the furthest below.
        pivot, column = min(numbers)
        number = contrary[column + 1]
        worth = -constant if number > 0 else constant
        worths = [taken * pivot + further * worth for taken, further in zip(hints.constants, hints.numbers[column])]
        least = min(worths, default=0)
        at = None if least >= 0 else 1 + worths.index(least)
        if at is not None:
            told = self._weights_of_two(at, column)
            if told is not None:
                return told
        self.corner = self.corner.moved([*contrary[1:], constant], column, 0)
        return self._weights_from(at, 0)

    def _weights_of_two(self, at, column):
        """Tell the weights of the contrary and a hint that goes against it, all unknowns alike; else None."""
        hint, contrary = self.hints.forms[at - 1], self.contrary
        number, further = contrary[column + 1], hint[column + 1]
        often = -further if number > 0 else further
        if often < 0:
            return None
        for one, other in zip(hint[1:], contrary[1:]):
            if one * number != other * further:
                return None
        told, pivot = [0] * (len(self.hints.forms) + 1), abs(number)
        shared = gcd(often, pivot)
        told[0], told[at] = often // shared, pivot // shared
        return told

    def _weights_from(self, at, still):
        """Go on by the form with this number, the contrary's 0, where so many moves gained nothing."""
        contrary, hints = self.contrary, self.hints
        while at is not None:
            corner = self.corner
            row = corner.row_of(contrary if at == 0 else hints.forms[at - 1])
            column = _free_column(corner, row)
            if column is None:
                column = _bound_column(corner, row)
                if column is None:
                    return _weights(corner, row, at, len(hints.forms) + 1)
                still = still + 1 if corner.costs[column] == 0 else 0
            self.corner = corner.moved(row, column, at)
            at = _broken(self.corner, contrary, hints, still > PATIENCE)
        return None


def _broken(corner, contrary, hints, first):
    """Tell the number of a form that doesn't hold at a corner, the first or the one furthest below 0; else None."""
    here, worths = corner.worth_here(contrary), hints.worths_at(corner)
    least = min(worths, default=0)
    if here < 0 and (first or here <= least):
        return 0
    if least >= 0:
        return None
    if not first:
        return 1 + worths.index(least)
    for at, worth in enumerate(worths):
        if worth < 0:
            return 1 + at
    return None


def _free_column(corner, row):
    """Tell the free column by which a row changes the least, None where it hangs on none."""
    found = None
    for column, number in enumerate(corner.columns):
        if number is None and row[column] != 0 and (found is None or abs(row[column]) < abs(row[found])):
            found = column
    return found


def _bound_column(corner, row):
    """Tell the column by which a row grows at the least cost, of several the least one; None where it never grows."""
    found = None
    for column, number in enumerate(corner.columns):
        if number is None or row[column] <= 0:
            continue
        if found is None:
            found = column
            continue
        cost, least = corner.costs[column] * row[found], corner.costs[found] * row[column]
        if cost < least or (cost == least and number < corner.columns[found]):
            found = column
    return found


def _weights(corner, row, at, many):
    """Tell the weights of forms that contradict one another: of one that never grows, and of those it hangs on."""
    told = [0] * many
    told[at] = corner.divisor
    for column, number in enumerate(corner.columns):
        if number is not None:
            told[number] -= row[column]
    shared = 0
    for weight in told:
        shared = gcd(shared, weight)
    return [weight // shared for weight in told]
