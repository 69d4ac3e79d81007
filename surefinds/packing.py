"""Masses that fit worths, and prices that bar them, both with the greatest sum that masses can have."""

from surefinds.exact import NIL, ONE, common_bottom, in_order, lowest, mixed, tops_over
from surefinds.simplex import Table

TOTAL = -1


def unlike_limits(count, corners):
    """For each supposition its unlike limits below 1, ascending."""
    return [in_order([corner[at] for corner in corners if corner[at] is not None and corner[at] != ONE])
            for at in range(count)]


def ranked(corners, limits):
    """The corners with the place of each limit among the unlike ones in its stead.

    No limit and the limit 1 do the same: both get the place behind all of them.
    """
    places = [{limit: at for at, limit in enumerate(row)} for row in limits]
    return [tuple([place.get(limit, len(place)) for limit, place in zip(corner, places)]) for corner in corners]


def is_under(one, other):
    """Whether each whole number of the one row is at most that of the other row."""
    return all([low <= high for low, high in zip(one, other)])


def needed(rows):
    """The indexes of the rows that are under no other one, of like rows that of the first."""
    return [at for at, row in enumerate(rows)
            if not any([is_under(row, other) and (row != other or ahead < at) for ahead, other in enumerate(rows)])]


class Packing:
    """The linear program of some worths, solved.

    A worth within another one, with no greater fraction, adds nothing: it is left out. Prices for the limit 1 are
    not needed beside the price for the total, so that what bars a corner bars those within it, too, also where one
    of them has the limit 1 and the other one has none.
    """

    def __init__(self, count, worths):
        corners = [corner for corner, _ in worths]
        fractions = [fraction for _, fraction in worths]
        limits = unlike_limits(count, corners)
        ranks = ranked(corners, limits)
        self.bottom = common_bottom(fractions)
        tops = tops_over(fractions, self.bottom)
        self.many = len(worths)
        self.kept = needed([rank + (top,) for rank, top in zip(ranks, tops)])
        self.bounds = [(TOTAL, ONE)]
        rows = [[1] * len(self.kept)]
        for index, own in enumerate(limits):
            column = [ranks[at][index] for at in self.kept]
            for place, limit in enumerate(own):
                if place in column:
                    self.bounds.append((index, limit))
                    rows.append([int(rank <= place) for rank in column])
        self.table = Table(rows, [bound[1] for bound in self.bounds], [tops[at] for at in self.kept])
        self.table.solve()

    def greatest(self):
        """The greatest sum of fitting masses, each times its fraction."""
        top, bottom = mixed(self.table.prices(), [bound[1] for bound in self.bounds])
        return lowest(top, bottom * self.table.scale * self.bottom)

    def masses(self):
        """Fitting masses with the greatest sum, one for each worth, in their order."""
        found = [NIL] * self.many
        for at, mass in zip(self.kept, self.table.amounts()):
            found[at] = mass
        return tuple(found)

    def prices(self):
        """Prices that bar the worths with the same sum."""
        told = [lowest(price, self.table.scale * self.bottom) for price in self.table.prices()]
        triples = [(index, limit, price) for (index, limit), price in zip(self.bounds, told)
                   if index != TOTAL and price[0] > 0]
        return (told[0], tuple(triples))


def worths_of(corners):
    return tuple([(corner, ONE) for corner in corners])


def chance_of(count, corners):
    """The greatest chance of the corners."""
    return Packing(count, worths_of(corners)).greatest()
