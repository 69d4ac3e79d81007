"""Degrees: bars with all limits times one, and the least one at which so many are surely false."""

from surefinds.bars import check_bars, corners_of
from surefinds.books import is_wrong
from surefinds.checks import check_degree, check_number_of, check_numbers, check_set
from surefinds.exact import NIL, ONE, greater, is_at_most, lesser, over, times
from surefinds.frames import check_frame


def scaled_bars(frame, bars, degree):
    """The bars, in their order, with all limits times the degree."""
    check_frame(frame)
    check_bars(frame[0], bars)
    check_degree(degree)
    return tuple([(lot, scaled(corner, degree)) for lot, corner in bars])


def scaled(corner, degree):
    return tuple([None if limit is None else times(limit, degree) for limit in corner])


def least_degree(frame, bars, numbers, group, number):
    """The least degree, 0 let, with which the group's sure count is at least the number; None if there is none."""
    check_frame(frame)
    check_bars(frame[0], bars)
    check_numbers(frame[0], numbers)
    check_set(frame[0], group)
    check_number_of(group, number)
    found = NIL
    for lot in frame[1]:
        if is_wrong(group, number, lot):
            quotient = least_quotient(corners_of(bars, lot), numbers)
            if quotient is None or not is_at_most(quotient, ONE):
                return None
            found = greater(found, quotient)
    return found


def least_quotient(corners, numbers):
    """The least degree with which the numbers are within some one of the corners; None if there is none."""
    found = None
    for corner in corners:
        quotient = quotient_of(corner, numbers)
        if quotient is not None:
            found = quotient if found is None else lesser(found, quotient)
    return found


def quotient_of(corner, numbers):
    """The least degree with which the numbers are within the corner; None if there is none."""
    found = NIL
    for limit, number in zip(corner, numbers):
        if limit is not None and number != NIL:
            if limit == NIL:
                return None
            found = greater(found, over(number, limit))
    return found
