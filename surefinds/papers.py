"""Whether masses and prices, whoever wrote them, show what a claim says of a greatest mean."""

from surefinds.exact import common_bottom, is_at_most, plus, sum_of, times, tops_over
from surefinds.kinds import is_price, is_row, is_weight


def are_prices(count, value):
    """Whether a value, whatever it is, are prices."""
    if not is_row(value, 2) or not is_weight(value[0]) or type(value[1]) is not tuple:
        return False
    triples = value[1]
    if not all([is_price(count, each) for each in triples]):
        return False
    return all([is_ahead(one, other) for one, other in zip(triples, triples[1:])])


def is_ahead(one, other):
    """Whether the triple is told before the other one, by the index, then by the limit as a number."""
    if one[0] != other[0]:
        return one[0] < other[0]
    return not is_at_most(other[1], one[1])


def price_sum(prices):
    base, triples = prices
    return sum_of([base] + [times(limit, price) for _, limit, price in triples])


def bar(prices, worths):
    """Whether the prices bar the worths."""
    return all([is_at_most(fraction, paid(prices, corner)) for corner, fraction in worths])


def paid(prices, corner):
    """The first price, and the prices of all limits that bind the corner."""
    base, triples = prices
    return plus(base, sum_of([price for at, limit, price in triples if is_up_to(corner[at], limit)]))


def is_up_to(limit, other):
    return limit is not None and is_at_most(limit, other)


def keep_up_to(count, worths, fraction, paper):
    """Whether the paper are prices that bar the worths with a sum of at most the fraction."""
    return are_prices(count, paper) and is_at_most(price_sum(paper), fraction) and bar(paper, worths)


def fit(masses, corners):
    bottom = common_bottom(masses)
    tops = tops_over(masses, bottom)
    if sum(tops) > bottom:
        return False
    bounds = [(at, limit) for corner in corners for at, limit in enumerate(corner) if limit is not None]
    return all([is_at_most((top_up_to(tops, corners, at, limit), bottom), limit) for at, limit in bounds])


def top_up_to(tops, corners, index, limit):
    """The sum of what the corners have whose limit of the index is at most the told one."""
    return sum([top for top, corner in zip(tops, corners) if is_up_to(corner[index], limit)])


def reach_above(worths, fraction, paper):
    """Whether the paper are fitting masses for the worths whose sum, each times its fraction, is above the fraction."""
    if not is_row(paper, len(worths)) or not all([is_weight(mass) for mass in paper]):
        return False
    if not fit(paper, [corner for corner, _ in worths]):
        return False
    return not is_at_most(sum_of([times(mass, each) for mass, (_, each) in zip(paper, worths)]), fraction)
