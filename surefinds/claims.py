"""Claims for the checker: which ones there are, and what their parts have to be."""

from surefinds.bars import check_bars
from surefinds.books import check_book
from surefinds.checks import (check_corners, check_count, check_fraction, check_number_of, check_numbers, check_set,
                              check_worths)
from surefinds.closed import check_cells, ends_of
from surefinds.errors import FindError
from surefinds.frames import check_frame


def check_chance(parts):
    count, corners, fraction = parts
    check_count(count)
    check_corners(count, corners)
    check_fraction(fraction)


def check_mean(parts):
    count, worths, fraction = parts
    check_count(count)
    check_worths(count, worths)
    check_fraction(fraction)


def check_risk(parts):
    frame, book, fraction = parts
    check_frame(frame)
    check_book(frame[0], book)
    check_fraction(fraction)


def check_sure(parts):
    frame, bars, numbers, group, number = parts
    check_frame(frame)
    check_bars(frame[0], bars)
    check_numbers(frame[0], numbers)
    check_set(frame[0], group)
    check_number_of(group, number)


def check_two_bars(parts):
    frame, bars, other = parts
    check_frame(frame)
    check_bars(frame[0], bars)
    check_bars(frame[0], other)


def check_two_bars_with_few_cells(parts):
    check_two_bars(parts)
    frame, bars, other = parts
    check_cells(ends_of(frame[0], bars + other))


def check_own_bars(parts):
    frame, bars = parts
    check_frame(frame)
    check_bars(frame[0], bars)


def check_own_bars_with_few_cells(parts):
    check_own_bars(parts)
    frame, bars = parts
    check_cells(ends_of(frame[0], bars))


CHECKS = {
    "chance up to": check_chance,
    "chance above": check_chance,
    "mean up to": check_mean,
    "mean above": check_mean,
    "risk up to": check_risk,
    "risk above": check_risk,
    "sure": check_sure,
    "not sure": check_sure,
    "never less": check_two_bars_with_few_cells,
    "less": check_two_bars,
    "consonant": check_own_bars_with_few_cells,
    "quiet": check_own_bars,
    "coherent": check_own_bars,
    "split": check_own_bars,
}

# How many parts a claim has behind its text.
PARTS = {
    "chance up to": 3,
    "chance above": 3,
    "mean up to": 3,
    "mean above": 3,
    "risk up to": 3,
    "risk above": 3,
    "sure": 5,
    "not sure": 5,
    "never less": 3,
    "less": 3,
    "consonant": 2,
    "quiet": 2,
    "coherent": 2,
    "split": 2,
}


def is_claim(value):
    """Whether a value, whatever it is, is a claim for the checker."""
    if type(value) is not tuple or len(value) == 0 or type(value[0]) is not str or value[0] not in PARTS:
        return False
    word, parts = value[0], value[1:]
    return len(parts) == PARTS[word] and are_right(word, parts)


def are_right(word, parts):
    check = CHECKS[word]
    try:
        check(parts)
    except FindError:
        return False
    return True
