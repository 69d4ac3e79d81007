"""The greatest chance of corners and the greatest mean of worths, for all joint ways, and those that are apart."""

from surefinds.checks import check_corners, check_count, check_worths
from surefinds.errors import TooMany
from surefinds.exact import ONE, common_bottom, lowest, tops_over
from surefinds.packing import Packing, chance_of, ranked, unlike_limits, worths_of

MOST_CELLS = 20000


def greatest_chance(count, corners):
    """The greatest chance, for all joint ways, that numbers are within some one of the corners."""
    check_count(count)
    check_corners(count, corners)
    return chance_of(count, corners)


def masses(count, corners):
    """Fitting masses, one for each corner, with the greatest chance as their sum."""
    check_count(count)
    check_corners(count, corners)
    return Packing(count, worths_of(corners)).masses()


def prices(count, corners):
    """Prices that bar the corners, with the greatest chance as their sum."""
    check_count(count)
    check_corners(count, corners)
    return Packing(count, worths_of(corners)).prices()


def greatest_mean(count, worths):
    """The greatest mean, for all joint ways, of the worth at the numbers."""
    check_count(count)
    check_worths(count, worths)
    return Packing(count, worths).greatest()


def worth_masses(count, worths):
    """Fitting masses, one for each worth, whose sum, each times its fraction, is the greatest mean."""
    check_count(count)
    check_worths(count, worths)
    return Packing(count, worths).masses()


def worth_prices(count, worths):
    """Prices that bar the worths, with the greatest mean as their sum."""
    check_count(count)
    check_worths(count, worths)
    return Packing(count, worths).prices()


def apart_chance(count, corners):
    """The chance that numbers that are apart are within some one of the corners."""
    check_count(count)
    check_corners(count, corners)
    return mean_apart(count, worths_of(corners))


def apart_mean(count, worths):
    """The mean of the worth at numbers that are apart."""
    check_count(count)
    check_worths(count, worths)
    return mean_apart(count, worths)


def mean_apart(count, worths):
    corners = [corner for corner, _ in worths]
    fractions = [fraction for _, fraction in worths]
    limits = unlike_limits(count, corners)
    check_cells(limits)
    bottom = common_bottom(fractions)
    ends, whole = [], bottom
    for row in limits:
        own = common_bottom(row)
        ends.append(tops_over(row + [ONE], own))
        whole *= own
    top = mean_from(0, ends, ranked(corners, limits), tops_over(fractions, bottom), list(range(len(worths))))
    return lowest(top, whole)


def check_cells(limits):
    cells = 1
    for row in limits:
        cells *= len(row) + 1
    if cells > MOST_CELLS:
        raise TooMany(cells)


def mean_from(index, ends, ranks, tops, alive):
    """The mean over the suppositions from index on, if those ahead leave the numbers within the corners alive.

    It is told times all bottoms of what it is worked out of. The numbers of one supposition that are within the same
    ones of the corners alive are one stretch: each stretch ends at one of their limits.
    """
    if index == len(ends):
        return max([tops[at] for at in alive], default=0)
    mean, start = 0, 0
    for place in sorted({ranks[at][index] for at in alive}):
        length = ends[index][place] - start
        left = [at for at in alive if ranks[at][index] >= place]
        mean += length * mean_from(index + 1, ends, ranks, tops, left)
        start = ends[index][place]
    return mean
