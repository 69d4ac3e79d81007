"""The errors for arguments that several modules take."""

from surefinds.errors import InvalidCorners, InvalidCount, InvalidNumbers, InvalidWorths
from surefinds.kinds import first_wrong, is_corner, is_count, is_number, is_row, is_worth

MOST_CORNERS = 60


def check_count(count):
    if not is_count(count):
        raise InvalidCount(count)


def check_corners(count, corners):
    if type(corners) is not tuple:
        raise InvalidCorners(None)
    at = first_wrong(corners, MOST_CORNERS, lambda each: is_corner(count, each))
    if at < len(corners):
        raise InvalidCorners(at)


def check_worths(count, worths):
    if type(worths) is not tuple:
        raise InvalidWorths(None)
    at = first_wrong(worths, MOST_CORNERS, lambda each: is_worth(count, each))
    if at < len(worths):
        raise InvalidWorths(at)


def check_numbers(count, numbers):
    if not is_row(numbers, count):
        raise InvalidNumbers(None)
    at = first_wrong(numbers, count, is_number)
    if at < count:
        raise InvalidNumbers(at)
