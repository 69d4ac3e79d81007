"""Bars with names: weighed and even ones, ranked ones, and those of webs."""

from surefinds.checks import (check_degree, check_leading_weights, check_set, check_shared_weights, check_web,
                              check_weights)
from surefinds.exact import lowest, over, sum_of, times
from surefinds.frames import all_sets, check_frame, is_part
from surefinds.webs import weights_left


def weighed_bars(frame, weights, degree):
    """For each lot single limits that share out the degree by the weights."""
    check_frame(frame)
    check_weights(frame[0], weights)
    check_degree(degree)
    found = []
    for lot in frame[1]:
        total = sum_of([weights[at] for at in lot])
        if total[0] > 0:
            found += single_bars(frame[0], lot, [times(degree, over(weight, total)) for weight in weights])
    return tuple(found)


def single_bars(count, lot, limits):
    """For each supposition of the lot with a limit above 0 the pair with this limit alone."""
    return [(lot, alike(count, (at,), limits[at])) for at in lot if limits[at][0] > 0]


def alike(count, group, limit):
    """The corner with the limit for all of the group."""
    return tuple([limit if at in group else None for at in range(count)])


def ranked_bars(frame, degree):
    """For each lot and each set of its suppositions the limit for all of the set that its size asks for."""
    check_frame(frame)
    check_degree(degree)
    count, lots = frame
    found = []
    for lot in lots:
        limits = [lowest(many * degree[0], len(lot) * degree[1]) for many in range(len(lot) + 1)]
        found += [(lot, alike(count, group, limits[len(group)])) for group in all_sets(count) if is_part(group, lot)]
    return tuple(found)


def web_bars(frame, weights, web, degree):
    """For each lot single limits that share out the degree by the weights that are left for the lot."""
    check_frame(frame)
    check_shared_weights(frame[0], weights)
    check_web(frame[0], web)
    check_degree(degree)
    found = []
    for lot in frame[1]:
        found += single_bars(frame[0], lot, [times(degree, weight) for weight in weights_left(weights, web, lot)])
    return tuple(found)


def web_weights(weights, web, lot):
    """The weights that are left for the lot, 0 elsewhere."""
    check_leading_weights(weights)
    check_web(len(weights), web)
    check_set(len(weights), lot)
    return weights_left(weights, web, lot)
