"""The errors for arguments that several modules take."""

from surefinds.errors import (InvalidCorners, InvalidCount, InvalidDegree, InvalidFraction, InvalidLimits,
                              InvalidNumber, InvalidNumbers, InvalidSet, InvalidWeb, InvalidWeights, InvalidWorths)
from surefinds.exact import ONE, is_at_most, sum_of
from surefinds.kinds import (first_wrong, is_corner, is_count, is_degree, is_fraction, is_number, is_row, is_set,
                             is_web_row, is_weight, is_whole, is_worth, tells_count)

MOST_CORNERS = 60


def check_count(count):
    if not is_count(count):
        raise InvalidCount(count)


def check_corners(count, corners):
    if type(corners) is not tuple:
        raise InvalidCorners(None)
    at = first_wrong(corners, MOST_CORNERS, lambda each: is_corner(count, each))
    if at < len(corners):
        raise InvalidCorners(at)


def check_worths(count, worths):
    if type(worths) is not tuple:
        raise InvalidWorths(None)
    at = first_wrong(worths, MOST_CORNERS, lambda each: is_worth(count, each))
    if at < len(worths):
        raise InvalidWorths(at)


def check_numbers(count, numbers):
    if not is_row(numbers, count):
        raise InvalidNumbers(None)
    at = first_wrong(numbers, count, is_number)
    if at < count:
        raise InvalidNumbers(at)


def check_leading_numbers(numbers):
    """For numbers that tell by themselves how many suppositions there are."""
    if not tells_count(numbers):
        raise InvalidNumbers(None)
    check_numbers(len(numbers), numbers)


def check_limits(count, limits):
    if not is_row(limits, count):
        raise InvalidLimits(None)
    for at, limit in enumerate(limits):
        if not is_number(limit) or limit == ONE or (at > 0 and not is_at_most(limits[at - 1], limit)):
            raise InvalidLimits(at)


def check_leading_limits(limits):
    """For limits that tell by themselves how many suppositions there are."""
    if not tells_count(limits):
        raise InvalidLimits(None)
    check_limits(len(limits), limits)


def check_set(count, group):
    if not is_set(count, group):
        raise InvalidSet(group)


def check_number_of(group, number):
    if not is_whole(number) or not 1 <= number <= len(group):
        raise InvalidNumber(number)


def check_degree(degree):
    if not is_degree(degree):
        raise InvalidDegree(degree)


def check_fraction(fraction):
    if not is_fraction(fraction):
        raise InvalidFraction(fraction)


def check_weights(count, weights):
    if not is_row(weights, count):
        raise InvalidWeights(None)
    at = first_wrong(weights, count, is_weight)
    if at < count:
        raise InvalidWeights(at)


def check_shared_weights(count, weights):
    check_weights(count, weights)
    if not is_at_most(sum_of(weights), ONE):
        raise InvalidWeights(None)


def check_leading_weights(weights):
    """For weights of a web that tell by themselves how many suppositions there are."""
    if not tells_count(weights):
        raise InvalidWeights(None)
    check_shared_weights(len(weights), weights)


def check_web(count, web):
    if not is_row(web, count):
        raise InvalidWeb(None)
    for at, row in enumerate(web):
        if not is_web_row(count, at, row):
            raise InvalidWeb(at)
