"""The greatest sum of costs under bounds, exact: the simplex method over whole numbers.

Asked for are amounts from 0 on, one for each column, with the greatest sum of amount times cost, where for each row
the sum of entry times amount is at most the row's bound. Entries and costs are whole numbers, bounds are fractions
from 0 on, and some row bounds all amounts.

The table is kept without the bounds, whose numbers may be long: its entries are short whole numbers over one scale.
What follows of the bounds is worked out of the table where it is needed.
"""

from surefinds.exact import NIL, lowest, mixed

ROUGH_BITS = 64


class Table:
    """Each row tells the amount of its basic name where those of the free names, one for each column, are 0.

    A column's amount has the column's index as its name; what a row leaves of its bound has the row's index as its
    name, counted on behind the columns.
    """

    def __init__(self, rows, bounds, costs):
        self.many = len(costs)
        self.rows = rows
        self.gains = [-cost for cost in costs]
        self.scale = 1
        self.free = list(range(len(costs)))
        self.basic = list(range(len(costs), len(costs) + len(rows)))
        self.bounds = bounds
        shift = ROUGH_BITS + max([bottom.bit_length() for _, bottom in bounds])
        self.rough = [(top << shift) // bottom for top, bottom in bounds]

    def solve(self):
        column = self.steepest()
        while column is not None:
            self.turn(self.tightest(column), column)
            column = self.steepest()

    def steepest(self):
        """The column by whose amount the sum grows most; None if it grows by none."""
        found = None
        for column, gain in enumerate(self.gains):
            if gain < 0 and (found is None or gain < self.gains[found]):
                found = column
        return found

    def tightest(self, column):
        """The row that is the first to stop the amount of the column's free name."""
        levels = self.levels_at(column)
        found = None
        for at in levels:
            if found is None or self.is_tighter(at, found, column, levels):
                found = at
        return found

    def levels_at(self, column):
        """For the rows that stop the column: the amount of the basic name by the rough bounds, and how far it is off.

        The rough bounds are too low, each by less than 1.
        """
        bounds = [0 if name < self.many else self.rough[name - self.many] for name in self.free]
        found = {}
        for at, row in enumerate(self.rows):
            if row[column] > 0:
                level = sum([entry * bound for entry, bound in zip(row, bounds)])
                if self.basic[at] >= self.many:
                    level += self.scale * self.rough[self.basic[at] - self.many]
                found[at] = (level, self.scale + sum([abs(entry) for entry in row]))
        return found

    def is_tighter(self, one, other, column, levels):
        """Whether row one stops the column before row other does.

        Rows that stop it at once are told apart as if the bounds were greater by something tiny, each one by ever so
        much less than the one before it: by the first bound that they have unlike shares of. So no table ever comes
        back, and the method ends.
        """
        weight, counter = self.rows[other][column], self.rows[one][column]
        level, blur = levels[one]
        height, haze = levels[other]
        lead = weight * level - counter * height
        if abs(lead) < weight * blur + counter * haze:
            shares, others = self.shares_of(one, weight), self.shares_of(other, counter)
            for bound in others:
                shares[bound] = shares.get(bound, 0) - others[bound]
            lead, _ = self.mixed_bounds(shares)
            if lead == 0:
                lead = shares[min([bound for bound in shares if shares[bound] != 0])]
        return lead < 0

    def shares_of(self, at, weight):
        """How often each bound is in the amount of the row's basic name, times the scale and the weight."""
        found = {}
        for name, entry in zip(self.free, self.rows[at]):
            if name >= self.many:
                found[name - self.many] = weight * entry
        if self.basic[at] >= self.many:
            found[self.basic[at] - self.many] = weight * self.scale
        return found

    def mixed_bounds(self, shares):
        # Bounds without a share are left out for the sake of the common bottom, which may be long.
        told = [bound for bound in shares if shares[bound] != 0]
        return mixed([shares[bound] for bound in told], [self.bounds[bound] for bound in told])

    def turn(self, at, column):
        """Let the row's basic name and the column's free name change places."""
        turning = self.rows[at]
        weight = turning[column]
        self.rows = [self.turned(row, turning, column) for row in self.rows]
        self.gains = self.turned(self.gains, turning, column)
        self.rows[at] = turning[:column] + [self.scale] + turning[column + 1:]
        self.scale = weight
        self.free[column], self.basic[at] = self.basic[at], self.free[column]

    def turned(self, row, turning, column):
        weight, factor = turning[column], row[column]
        if factor == 0 and weight == self.scale:
            return row
        found = [(weight * entry - factor * other) // self.scale for entry, other in zip(row, turning)]
        found[column] = -factor
        return found

    def amounts(self):
        """The amounts of the columns, in their order."""
        found = [NIL] * self.many
        for at, name in enumerate(self.basic):
            if name < self.many:
                top, bottom = self.mixed_bounds(self.shares_of(at, 1))
                found[name] = lowest(top, bottom * self.scale)
        return found

    def prices(self):
        """What each row's bound is worth, in their order, times the scale: the sum of bound times price is reached."""
        found = [0] * len(self.bounds)
        for name, gain in zip(self.free, self.gains):
            if name >= self.many:
                found[name - self.many] = gain
        return found
