"""Corners: a place is looked for at which forms hold, all of them, or else weights by which they never do."""

from math import gcd

# After so many moves in a row that gain nothing, the moves are chosen so that no corner comes again.
PATIENCE = 20


class Corner:
    """A place of the unknowns, told by forms that come to just 0 there.

    Each unknown is a row: a number for each column, then its own worth at the corner, all over one divisor.
    A column stands for a form that is 0 at the corner, or, while it is free, for an unknown that is 0 there.
    The costs tell by columns, over the divisor, the sum of some of those forms. None of them is ever below 0,
    so this sum is the least at the corner as far as the columns' forms hold, and each move lets it grow or stay.
    """

    def __init__(self, many):
        self.divisor = 1
        self.rows = [[1 if column == at else 0 for column in range(many + 1)] for at in range(many)]
        self.columns = [None] * many
        self.costs = [0] * (many + 1)

    def twin(self):
        """Tell a corner at the same place that is moved by itself."""
        other = Corner(0)
        other.divisor = self.divisor
        other.rows = [list(row) for row in self.rows]
        other.columns = list(self.columns)
        other.costs = list(self.costs)
        return other

    def worth_here(self, parts):
        """Tell what a form comes to at the corner, so often as the divisor is."""
        constant, terms = parts
        return constant * self.divisor + sum([number * self.rows[at][-1] for at, number in terms])

    def row_of(self, parts):
        """Tell a form as a row over the columns."""
        constant, terms = parts
        told = [0] * len(self.columns) + [constant * self.divisor]
        for at, number in terms:
            told = [taken + number * further for taken, further in zip(told, self.rows[at])]
        return told

    def move(self, row, column, number):
        """Move to where a form, with this row and number, comes to 0, in the place of what the column stands for."""
        was_free = self.columns[column] is None
        self.rows = [self._moved(other, row, column) for other in self.rows]
        self.costs = self._moved(self.costs, row, column)
        self.divisor = abs(row[column])
        self.columns[column] = number
        if was_free:
            # The form is one of those whose sum the costs tell, from now on.
            self.costs[column] = self.divisor

    def _moved(self, other, row, column):
        pivot, taken = abs(row[column]), other[column]
        if taken == 0 and pivot == self.divisor:
            return other
        if row[column] < 0:
            taken = -taken
        # All numbers are determinants of the forms' numbers, as is the divisor, so there is never a rest.
        told = [(number * pivot - taken * further) // self.divisor for number, further in zip(other, row)]
        told[column] = taken
        return told


def parts_of(form):
    """Tell a form as its constant and its terms, the unknown's place with its number."""
    return form[0], [(at, number) for at, number in enumerate(form[1:]) if number != 0]


def contradiction(corner, forms):
    """Move a corner to where all forms hold, and tell None; or tell weights, from 0 on, where they never all do.

    Each form, by its parts, so often as its weight is, they come to 0 for each unknown, and a constant below 0.
    """
    still = 0
    while True:
        at = _broken(corner, forms, still > PATIENCE)
        if at is None:
            return None
        row = corner.row_of(forms[at])
        column = _free_column(corner, row)
        if column is None:
            column = _bound_column(corner, row)
            if column is None:
                return _weights(corner, row, at, len(forms))
            still = still + 1 if corner.costs[column] == 0 else 0
        corner.move(row, column, at)


def _broken(corner, forms, first):
    """Tell the number of a form that doesn't hold at a corner, the first or the one furthest below 0."""
    found, least = None, 0
    for at, parts in enumerate(forms):
        here = corner.worth_here(parts)
        if here < least:
            if first:
                return at
            found, least = at, here
    return found


def _free_column(corner, row):
    """Tell the free column by which a row changes the least, None where it hangs on none."""
    found = None
    for column, number in enumerate(corner.columns):
        if number is None and row[column] != 0 and (found is None or abs(row[column]) < abs(row[found])):
            found = column
    return found


def _bound_column(corner, row):
    """Tell the column by which a row grows at the least cost, of several the least one; None where it never grows."""
    found = None
    for column, number in enumerate(corner.columns):
        if number is None or row[column] <= 0:
            continue
        if found is None:
            found = column
            continue
        cost, least = corner.costs[column] * row[found], corner.costs[found] * row[column]
        if cost < least or (cost == least and number < corner.columns[found]):
            found = column
    return found


def _weights(corner, row, at, many):
    """Tell the weights of forms that contradict one another: of one that never grows, and of those it hangs on."""
    told = [0] * many
    told[at] = corner.divisor
    for column, number in enumerate(corner.columns):
        if number is not None:
            told[number] -= row[column]
    shared = 0
    for weight in told:
        shared = gcd(shared, weight)
    return [weight // shared for weight in told]
