"""The checker. It trusts nobody: claims and papers may be whatever they are."""

from surefinds.bars import called_by, corners_of, is_coherent, lots_left, surely_false
from surefinds.books import corners_against, false_of, is_within
from surefinds.claims import is_claim
from surefinds.closed import is_consonant, never_less
from surefinds.frames import is_part
from surefinds.kinds import are_numbers, is_row, is_set
from surefinds.packing import worths_of
from surefinds.papers import keep_up_to, reach_above


def bars_chance(parts, paper):
    count, corners, fraction = parts
    return keep_up_to(count, worths_of(corners), fraction, paper)


def reaches_chance(parts, paper):
    _, corners, fraction = parts
    return reach_above(worths_of(corners), fraction, paper)


def bars_mean(parts, paper):
    count, worths, fraction = parts
    return keep_up_to(count, worths, fraction, paper)


def reaches_mean(parts, paper):
    _, worths, fraction = parts
    return reach_above(worths, fraction, paper)


def bars_risk_of(parts, paper):
    """Whether the paper has prices for each lot."""
    frame, book, fraction = parts
    count, lots = frame
    if not is_row(paper, len(lots)):
        return False
    return all([keep_up_to(count, worths_of(corners_against(book, lot)), fraction, prices)
                for lot, prices in zip(lots, paper)])


def reaches_risk(parts, paper):
    """Whether the paper has a lot and masses for it."""
    frame, book, fraction = parts
    if not is_row(paper, 2) or not is_lot(frame, paper[0]):
        return False
    return reach_above(worths_of(corners_against(book, paper[0])), fraction, paper[1])


def is_lot(frame, value):
    return is_set(frame[0], value) and value in frame[1]


def is_nothing(value):
    return is_row(value, 0)


def is_sure(parts, paper):
    frame, bars, numbers, group, number = parts
    return is_nothing(paper) and surely_false(group, lots_left(frame, bars, numbers)) >= number


def leaves_fewer(parts, paper):
    """Whether the paper is a possible lot that leaves too few of the group false."""
    frame, bars, numbers, group, number = parts
    if not is_nothing(paper) and not is_lot(frame, paper):
        return False
    return paper in lots_left(frame, bars, numbers) and false_of(group, paper) < number


def says_never_less(parts, paper):
    frame, bars, other = parts
    return is_nothing(paper) and never_less(frame, bars, other)


def says_less(parts, paper):
    """Whether the paper has numbers and a set of a lesser sure count by the first bars."""
    frame, bars, other = parts
    if not is_row(paper, 2) or not are_numbers(frame[0], paper[0]) or not is_set(frame[0], paper[1]):
        return False
    numbers, group = paper
    ours, theirs = lots_left(frame, bars, numbers), lots_left(frame, other, numbers)
    return surely_false(group, ours) < surely_false(group, theirs)


def always_calls(parts, paper):
    frame, bars = parts
    return is_nothing(paper) and is_consonant(frame, bars)


def calls_none(parts, paper):
    """Whether the paper are numbers at which some set has a sure count above 0 and no index is called."""
    frame, bars = parts
    if not are_numbers(frame[0], paper):
        return False
    possible = lots_left(frame, bars, paper)
    # No set has a greater sure count than the one of all suppositions.
    return surely_false(tuple(range(frame[0])), possible) > 0 and called_by(frame[0], possible) == ()


def hangs_together(parts, paper):
    frame, bars = parts
    return is_nothing(paper) and is_coherent(frame, bars)


def splits(parts, paper):
    """Whether the paper has a lot, one that it lies in, and numbers that bar the first one and not the second one."""
    frame, bars = parts
    if not is_row(paper, 3):
        return False
    lot, other, numbers = paper
    if not is_lot(frame, lot) or not is_lot(frame, other) or not are_numbers(frame[0], numbers):
        return False
    return is_part(lot, other) and is_barred(bars, lot, numbers) and not is_barred(bars, other, numbers)


def is_barred(bars, lot, numbers):
    return any([is_within(numbers, corner) for corner in corners_of(bars, lot)])


SHOWN = {
    "chance up to": bars_chance,
    "chance above": reaches_chance,
    "mean up to": bars_mean,
    "mean above": reaches_mean,
    "risk up to": bars_risk_of,
    "risk above": reaches_risk,
    "sure": is_sure,
    "not sure": leaves_fewer,
    "never less": says_never_less,
    "less": says_less,
    "consonant": always_calls,
    "quiet": calls_none,
    "coherent": hangs_together,
    "split": splits,
}


def accepts(claim, paper):
    """Whether the claim is one for the checker and the paper shows it, whatever both are."""
    if not is_claim(claim):
        return False
    shows = SHOWN[claim[0]]
    return shows(claim[1:], paper)
