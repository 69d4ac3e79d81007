"""Short ways: what limits, webs and Hommel's number call, without a look at all lots."""

from surefinds.checks import (check_degree, check_leading_limits, check_leading_numbers, check_leading_weights,
                              check_limits, check_numbers, check_set, check_web)
from surefinds.exact import NIL, ONE, greater, is_at_most, lesser, times
from surefinds.frames import all_sets
from surefinds.named import alike
from surefinds.packing import chance_of
from surefinds.webs import without


def step_down(numbers, limits):
    """What the steps down call: from the least number on, as long as each next one is up to its limit."""
    check_leading_numbers(numbers)
    check_limits(len(numbers), limits)
    found = ()
    for at, limit in enumerate(limits):
        within = up_to(numbers, limit)
        if len(within) <= at:
            return found
        found = within
    return found


def step_up(numbers, limits):
    """What the steps up call: from the greatest number on, as soon as one is up to its limit."""
    check_leading_numbers(numbers)
    check_limits(len(numbers), limits)
    return called_up(numbers, limits)


def called_up(numbers, limits):
    # The r-th least number is up to its limit exactly if r numbers are up to it; of the last such limit just r are,
    # as one more would be up to the next limit, too.
    found = ()
    for at, limit in enumerate(limits):
        within = up_to(numbers, limit)
        if len(within) > at:
            found = within
    return found


def up_to(numbers, limit):
    """The indexes of the numbers that are at most the limit."""
    return tuple([at for at, number in enumerate(numbers) if is_at_most(number, limit)])


def down_risk(limits):
    """The greatest chance that the steps down call a true one."""
    check_leading_limits(limits)
    found = NIL
    for at, limit in enumerate(limits):
        found = greater(found, times((len(limits) - at, 1), limit))
    return lesser(ONE, found)


def up_risk(limits):
    """The greatest chance that the steps up call a true one."""
    check_leading_limits(limits)
    found = NIL
    for many in range(1, len(limits) + 1):
        found = greater(found, chance_of(many, true_corners(limits, many)))
    return found


def true_corners(limits, many):
    """Where some of so many true ones are called by the steps up, if all others are called."""
    others = len(limits) - many
    return [alike(many, group, limits[others + len(group) - 1]) for group in all_sets(many)]


def web_calls(weights, web, numbers, degree):
    """What a web's steps call, ascending."""
    check_leading_weights(weights)
    check_web(len(weights), web)
    check_numbers(len(weights), numbers)
    check_degree(degree)
    left, rows, found = weights, web, []
    index = first_step(left, numbers, degree)
    while index is not None:
        found.append(index)
        left, rows = without(left, rows, index)
        index = first_step(left, numbers, degree)
    return tuple(sorted(found))


def first_step(weights, numbers, degree):
    """The first whose weight is above 0 and whose number is up to its part of the degree; None if there is none."""
    for at, weight in enumerate(weights):
        if weight[0] > 0 and is_at_most(numbers[at], times(degree, weight)):
            return at
    return None


def hommel_number(numbers, degree):
    """The size of the greatest lot that the ranked bars leave possible."""
    check_leading_numbers(numbers)
    check_degree(degree)
    return greatest_left(numbers, degree)


def greatest_left(numbers, degree):
    return max([size for size in range(len(numbers) + 1) if are_left(numbers, degree, size)])


def are_left(numbers, degree, size):
    """Whether of so many greatest numbers each one is above what the ranked bars ask of it."""
    below = len(numbers) - size
    # The j-th least of them is above a limit exactly if fewer than j, and those that are below them all, are up to it.
    return all([len(up_to(numbers, (at * degree[0], size * degree[1]))) < below + at for at in range(1, size + 1)])


def ranked_count(numbers, degree, group):
    """The sure count of the group by the ranked bars."""
    check_leading_numbers(numbers)
    check_degree(degree)
    check_set(len(numbers), group)
    left = greatest_left(numbers, degree)
    risen = [(left * numbers[at][0], numbers[at][1]) for at in group]
    counts = [1 - many + len(up_to(risen, (many * degree[0], degree[1]))) for many in range(1, len(group) + 1)]
    return max(0, max(counts))
