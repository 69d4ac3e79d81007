"""Shares: how many of what the steps up call are true ones."""

from surefinds.checks import check_leading_limits, check_leading_numbers, check_limits, check_numbers, check_set
from surefinds.exact import NIL, common_bottom, lowest, mixed, tops_over
from surefinds.frames import all_sets, is_part
from surefinds.named import alike
from surefinds.packing import Packing
from surefinds.ways import called_up, up_to


def share(numbers, limits, lot):
    """How many of the lot are called, divided by how many are called at all."""
    check_leading_numbers(numbers)
    check_limits(len(numbers), limits)
    check_set(len(numbers), lot)
    calls = called_up(numbers, limits)
    if calls == ():
        return NIL
    return lowest(len([at for at in calls if at in lot]), len(calls))


def share_worths(limits, lot):
    """The worths whose worth at numbers is the greatest share, whatever the numbers of the others are."""
    check_leading_limits(limits)
    check_set(len(limits), lot)
    return worths_against(limits, lot)


def worths_against(limits, lot):
    count = len(limits)
    groups = [group for group in all_sets(count) if is_part(group, lot)]
    return tuple([share_worth(limits, group, others) for others in range(count - len(lot) + 1) for group in groups])


def share_worth(limits, group, others):
    """What the share is, and from where on, if the group is called and so many others."""
    calls = len(group) + others
    return (alike(len(limits), group, limits[calls - 1]), lowest(len(group), calls))


def greatest_share(limits, lot):
    """The greatest mean of the share, for all joint ways, the numbers of the others being as bad as can be."""
    check_leading_limits(limits)
    check_set(len(limits), lot)
    return Packing(len(limits), worths_against(limits, lot)).greatest()


def apart_share(limits, lot, numbers):
    """The mean of the share if the numbers of the lot are apart and those of the others are as told."""
    check_leading_limits(limits)
    check_set(len(limits), lot)
    check_numbers(len(limits), numbers)
    others = [number for at, number in enumerate(numbers) if at not in lot]
    within = [len(up_to(others, limit)) for limit in limits]
    bottom = common_bottom(limits)
    ends = tops_over(limits, bottom)
    chances = spread(len(lot), [high - low for low, high in zip([0] + ends, ends + [bottom])])
    top, whole = mixed(list(chances.values()), [share_at(counts, within) for counts in chances])
    return lowest(top, whole * sum(chances.values()))


def spread(many, lengths):
    """How likely so many numbers that are apart fall so often into each of the stretches that make up the whole.

    The chances are told times one whole number, their sum.
    """
    chances = {(0,) * len(lengths): 1}
    for _ in range(many):
        grown = {}
        for counts, chance in chances.items():
            for at, length in enumerate(lengths):
                more = counts[:at] + (counts[at] + 1,) + counts[at + 1:]
                grown[more] = grown.get(more, 0) + chance * length
        chances = grown
    return chances


def share_at(counts, within):
    """The share if so many of the lot fall into each stretch, and so many of the others are up to each limit.

    The stretches end at the limits, in their order, the last one at 1.
    """
    found, wrong = NIL, 0
    for at, others in enumerate(within):
        wrong += counts[at]
        if wrong + others > at:
            found = lowest(wrong, wrong + others)
    return found
