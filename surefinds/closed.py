"""What bars say at all numbers at once: a look at all cells, which stand for all numbers."""

from surefinds.bars import called_by, check_bars, surely_false
from surefinds.errors import TooMany
from surefinds.exact import ONE, in_order, is_at_most
from surefinds.frames import check_frame, is_part

MOST_CELLS = 4096


def never_less(frame, bars, other):
    """Whether for all numbers and all sets the sure count by the bars is at least that by the other ones."""
    check_frame(frame)
    check_bars(frame[0], bars)
    check_bars(frame[0], other)
    return first_parting(frame, bars, other) is None


def parting(frame, bars, other):
    """Numbers and a set of a lesser sure count by the bars than by the other ones; None if there are none."""
    check_frame(frame)
    check_bars(frame[0], bars)
    check_bars(frame[0], other)
    return first_parting(frame, bars, other)


def first_parting(frame, bars, other):
    ends = ends_of(frame[0], bars + other)
    check_cells(ends)
    ours, theirs = possible_at(frame, bars, ends), possible_at(frame, other, ends)
    for cell, possible, others in zip(cells_of(ends), ours, theirs):
        for lot in possible:
            if not lies_in_some(lot, others):
                return (cell, lot)
    return None


def lies_in_some(lot, others):
    # A lot mostly lies in itself, which is soon seen.
    return lot in others or any([is_part(lot, other) for other in others])


def is_consonant(frame, bars):
    """Whether for all numbers at which some set has a sure count above 0 some index is called."""
    check_frame(frame)
    check_bars(frame[0], bars)
    return first_quiet(frame, bars) is None


def quiet_numbers(frame, bars):
    """Numbers at which some set has a sure count above 0, and no index is called; None if there are none."""
    check_frame(frame)
    check_bars(frame[0], bars)
    return first_quiet(frame, bars)


def first_quiet(frame, bars):
    count = frame[0]
    ends = ends_of(count, bars)
    check_cells(ends)
    # No set has a greater sure count than the one of all suppositions.
    everything = tuple(range(count))
    for cell, possible in zip(cells_of(ends), possible_at(frame, bars, ends)):
        if surely_false(everything, possible) > 0 and called_by(count, possible) == ():
            return cell
    return None


def ends_of(count, bars):
    """For each supposition the unlike limits that it has in any pair, and 1, ascending."""
    return [in_order([corner[at] for _, corner in bars if corner[at] is not None] + [ONE]) for at in range(count)]


def check_cells(ends):
    cells = 1
    for own in ends:
        cells *= len(own)
    if cells > MOST_CELLS:
        raise TooMany(cells)


def cells_of(ends):
    cells = [()]
    for own in ends:
        cells = [cell + (end,) for cell in cells for end in own]
    return cells


def possible_at(frame, bars, ends):
    """For each cell, in the order of cells_of, the possible lots."""
    barring = [(lot, bits_of([own == lot for own, _ in bars])) for lot in frame[1]]
    return [[()] + [lot for lot, pairs in barring if pairs & within == 0] for within in pairs_at(bars, ends)]


def pairs_at(bars, ends):
    """For each cell, in the order of cells_of, a number with a bit for each pair within whose corner it is."""
    found = [(1 << len(bars)) - 1]
    for index, own in enumerate(ends):
        limits = [corner[index] for _, corner in bars]
        steps = [bits_of([limit is None or is_at_most(end, limit) for limit in limits]) for end in own]
        found = [within & step for within in found for step in steps]
    return found


def bits_of(flags):
    found = 0
    for at, flag in enumerate(flags):
        if flag:
            found |= 1 << at
    return found
