"""Sums and orders of fractions, which are pairs (n, m) in lowest terms with m above 0."""

from math import gcd, lcm

NIL = (0, 1)
ONE = (1, 1)


def lowest(top, bottom):
    """The fraction top / bottom, bottom above 0."""
    common = gcd(top, bottom)
    return (top // common, bottom // common)


def is_at_most(one, other):
    return one[0] * other[1] <= other[0] * one[1]


def lesser(one, other):
    return one if is_at_most(one, other) else other


def greater(one, other):
    return other if is_at_most(one, other) else one


def plus(one, other):
    return lowest(one[0] * other[1] + other[0] * one[1], one[1] * other[1])


def times(one, other):
    return lowest(one[0] * other[0], one[1] * other[1])


def over(one, other):
    """The fraction one / other, other above 0."""
    return lowest(one[0] * other[1], one[1] * other[0])


def common_bottom(fractions):
    bottom = 1
    for _, each in fractions:
        bottom = lcm(bottom, each)
    return bottom


def tops_over(fractions, bottom):
    """The fractions times bottom, which all of them divide."""
    return [top * (bottom // own) for top, own in fractions]


def sum_of(fractions):
    bottom = common_bottom(fractions)
    return lowest(sum(tops_over(fractions, bottom)), bottom)


def mixed(shares, fractions):
    """The sum of all whole share times fraction, as a pair that need not be in lowest terms."""
    bottom = common_bottom(fractions)
    tops = tops_over(fractions, bottom)
    return sum([share * top for share, top in zip(shares, tops)]), bottom


def in_order(fractions):
    """The unlike ones of the fractions, ascending as numbers."""
    unlike = list({each: True for each in fractions})
    # Unlike fractions differ by more than one part of 2 ** shift, so that their whole parts of it differ, too.
    shift = 2 * max([bottom.bit_length() for _, bottom in unlike], default=0)
    return sorted(unlike, key=lambda each: (each[0] << shift) // each[1])
