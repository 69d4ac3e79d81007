"""Bars: which lots numbers bar, and what is then surely false of all sets at once."""

from surefinds.books import check_book, corners_against, false_of, is_within
from surefinds.checks import MOST_CORNERS, check_count, check_numbers, check_set
from surefinds.errors import InvalidBars, TooMany
from surefinds.exact import NIL, ONE, greater
from surefinds.frames import check_frame, is_part
from surefinds.kinds import is_bar
from surefinds.packing import chance_of, is_under, needed, ranked, unlike_limits

MOST_BARS = 240


def are_bars(count, value):
    """Whether a value, whatever it is, are bars for so many suppositions."""
    check_count(count)
    return type(value) is tuple and first_wrong_bar(count, value) == len(value)


def first_wrong_bar(count, bars):
    many = {}
    for at, bar in enumerate(bars):
        if at == MOST_BARS or not is_bar(count, bar):
            return at
        many[bar[0]] = many.get(bar[0], 0) + 1
        if many[bar[0]] > MOST_CORNERS:
            return at
    return len(bars)


def check_bars(count, bars):
    if type(bars) is not tuple:
        raise InvalidBars(None)
    at = first_wrong_bar(count, bars)
    if at < len(bars):
        raise InvalidBars(at)


def bars_of(frame, book):
    """The bars of the book, without corners of a lot that lie within others of it."""
    check_frame(frame)
    check_book(frame[0], book)
    count, lots = frame
    found = []
    for lot in lots:
        corners = corners_against(book, lot)
        outer = needed(ranked(corners, unlike_limits(count, corners)))
        found += [(lot, corners[at]) for at in outer]
    if len(found) > MOST_BARS:
        raise TooMany(len(found))
    return tuple(found)


def bars_risk(frame, bars):
    """The greatest chance, over all lots of the frame, that the numbers are within a corner of the lot."""
    check_frame(frame)
    check_bars(frame[0], bars)
    count, lots = frame
    found = NIL
    for lot in lots:
        found = greater(found, chance_of(count, corners_of(bars, lot)))
    return found


def corners_of(bars, lot):
    return [corner for own, corner in bars if own == lot]


def possible_lots(frame, bars, numbers):
    """The lots of the frame that the numbers do not bar, ascending, and () ahead of them."""
    check_frame(frame)
    check_bars(frame[0], bars)
    check_numbers(frame[0], numbers)
    return lots_left(frame, bars, numbers)


def lots_left(frame, bars, numbers):
    barred = {lot: True for lot, corner in bars if is_within(numbers, corner)}
    return ((),) + tuple([lot for lot in frame[1] if lot not in barred])


def sure_count(frame, bars, numbers, group):
    """How many of the group are false at least, whichever of the possible lots is just the true ones."""
    check_frame(frame)
    check_bars(frame[0], bars)
    check_numbers(frame[0], numbers)
    check_set(frame[0], group)
    return surely_false(group, lots_left(frame, bars, numbers))


def surely_false(group, possible):
    return min([false_of(group, lot) for lot in possible])


def called(frame, bars, numbers):
    """The indexes, ascending, of the suppositions that are in no possible lot."""
    check_frame(frame)
    check_bars(frame[0], bars)
    check_numbers(frame[0], numbers)
    return called_by(frame[0], lots_left(frame, bars, numbers))


def called_by(count, possible):
    return tuple([index for index in range(count) if surely_false((index,), possible) == 1])


def is_coherent(frame, bars):
    """Whether for all numbers, wherever a lot is barred, all lots that it lies in are barred, too."""
    check_frame(frame)
    check_bars(frame[0], bars)
    return first_split(frame, bars) is None


def first_split(frame, bars):
    """A lot, one that it lies in, and numbers that bar the first one and not the second one; None if there are none."""
    count, lots = frame
    corners = [corner for _, corner in bars]
    ranks = ranked(corners, unlike_limits(count, corners))
    places = {lot: [at for at, (own, _) in enumerate(bars) if own == lot] for lot in lots}
    pairs = [(part, whole) for part in lots for whole in lots if is_part(part, whole)]
    for lot, other in pairs:
        outer = [ranks[at] for at in places[other]]
        for at in places[lot]:
            if not any([is_under(ranks[at], row) for row in outer]):
                return (lot, other, highest_within(corners[at]))
    return None


def highest_within(corner):
    return tuple([ONE if limit is None else limit for limit in corner])
