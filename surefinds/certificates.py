"""Certificates: claims that are so, with papers that the checker accepts."""

from surefinds.bars import first_split, lots_left
from surefinds.books import corners_against, false_of, riskiest_of
from surefinds.claims import check_chance, check_mean, check_own_bars, check_risk, check_sure, check_two_bars
from surefinds.closed import first_parting, first_quiet
from surefinds.exact import is_at_most
from surefinds.packing import Packing, worths_of


def certify_chance(count, corners, fraction):
    """Whether the greatest chance is up to the fraction or above it."""
    parts = (count, corners, fraction)
    check_chance(parts)
    solved = Packing(count, worths_of(corners))
    if is_at_most(solved.greatest(), fraction):
        return (("chance up to",) + parts, solved.prices())
    return (("chance above",) + parts, solved.masses())


def certify_mean(count, worths, fraction):
    """Whether the greatest mean is up to the fraction or above it."""
    parts = (count, worths, fraction)
    check_mean(parts)
    solved = Packing(count, worths)
    if is_at_most(solved.greatest(), fraction):
        return (("mean up to",) + parts, solved.prices())
    return (("mean above",) + parts, solved.masses())


def certify_risk(frame, book, fraction):
    """Whether the risk of the book is up to the fraction or above it."""
    parts = (frame, book, fraction)
    check_risk(parts)
    lot, found = riskiest_of(frame, book)
    if is_at_most(found, fraction):
        return (("risk up to",) + parts, tuple([against(frame, book, each).prices() for each in frame[1]]))
    return (("risk above",) + parts, (lot, against(frame, book, lot).masses()))


def against(frame, book, lot):
    """The linear program of what the book says wrongly if just the lot is true."""
    return Packing(frame[0], worths_of(corners_against(book, lot)))


def certify_sure(frame, bars, numbers, group, number):
    """Whether the sure count of the group is at least the number or less."""
    parts = (frame, bars, numbers, group, number)
    check_sure(parts)
    for lot in lots_left(frame, bars, numbers):
        if false_of(group, lot) < number:
            return (("not sure",) + parts, lot)
    return (("sure",) + parts, ())


def certify_never_less(frame, bars, other):
    """Whether the bars say never less than the other ones or less at some numbers."""
    parts = (frame, bars, other)
    check_two_bars(parts)
    found = first_parting(frame, bars, other)
    if found is None:
        return (("never less",) + parts, ())
    return (("less",) + parts, found)


def certify_consonant(frame, bars):
    """Whether the bars are consonant or not."""
    parts = (frame, bars)
    check_own_bars(parts)
    found = first_quiet(frame, bars)
    if found is None:
        return (("consonant",) + parts, ())
    return (("quiet",) + parts, found)


def certify_coherent(frame, bars):
    """Whether the bars are coherent or not."""
    parts = (frame, bars)
    check_own_bars(parts)
    found = first_split(frame, bars)
    if found is None:
        return (("coherent",) + parts, ())
    return (("split",) + parts, found)
