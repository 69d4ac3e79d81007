"""Frames: which sets of suppositions can be just the true ones."""

from surefinds.checks import check_count
from surefinds.errors import InvalidFrame, InvalidTies
from surefinds.kinds import first_wrong, is_ascending, is_count, is_row, is_set, is_tie

MOST_TIES = 12


def is_frame(value):
    """Whether a value, whatever it is, is a frame."""
    if not is_row(value, 2):
        return False
    count, lots = value
    if not is_count(count) or type(lots) is not tuple or len(lots) == 0:
        return False
    return all([is_set(count, lot) for lot in lots]) and is_ascending(lots)


def check_frame(frame):
    if not is_frame(frame):
        raise InvalidFrame(frame)


def full_frame(count):
    """The frame in which all sets are lots."""
    check_count(count)
    return (count, all_sets(count))


def implied_frame(count, ties):
    """The frame of all sets that have the index of each tie wherever they have all of its set."""
    check_count(count)
    check_ties(count, ties)
    return (count, tuple([lot for lot in all_sets(count) if all([keeps(lot, tie) for tie in ties])]))


def check_ties(count, ties):
    if type(ties) is not tuple:
        raise InvalidTies(None)
    at = first_wrong(ties, MOST_TIES, lambda each: is_tie(count, each))
    if at < len(ties):
        raise InvalidTies(at)


def is_part(lot, other):
    """Whether all of the lot lies in the other one."""
    return all([at in other for at in lot])


def all_sets(count):
    """All sets of so many suppositions, ascending."""
    picks = range(1, 1 << count)
    return tuple(sorted([tuple([at for at in range(count) if pick >> at & 1]) for pick in picks]))


def keeps(lot, tie):
    group, index = tie
    return index in lot or not is_part(group, lot)
