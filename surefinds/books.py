"""Books of sayings: what they say at numbers, and the greatest chance that they say a wrong word."""

from surefinds.checks import MOST_CORNERS, check_count, check_numbers
from surefinds.errors import InvalidBook, InvalidSet
from surefinds.exact import is_at_most
from surefinds.frames import check_frame
from surefinds.kinds import first_wrong, is_saying, is_set
from surefinds.packing import chance_of


def is_book(count, value):
    """Whether a value, whatever it is, is a book for so many suppositions."""
    check_count(count)
    return type(value) is tuple and first_wrong_saying(count, value) == len(value)


def first_wrong_saying(count, book):
    return first_wrong(book, MOST_CORNERS, lambda each: is_saying(count, each))


def check_book(count, book):
    if type(book) is not tuple:
        raise InvalidBook(None)
    at = first_wrong_saying(count, book)
    if at < len(book):
        raise InvalidBook(at)


def check_lot(frame, lot):
    count, lots = frame
    # Only a set is looked up: what is no set may be equal to one, as (True,) is to (1,).
    if not is_set(count, lot) or lot not in lots:
        raise InvalidSet(lot)


def says(count, book, numbers):
    """The indexes, ascending, of the sayings within whose corners the numbers are."""
    check_count(count)
    check_book(count, book)
    check_numbers(count, numbers)
    return tuple([at for at, saying in enumerate(book) if is_within(numbers, saying[2])])


def is_within(numbers, corner):
    return all([limit is None or is_at_most(number, limit) for number, limit in zip(numbers, corner)])


def wrong_corners(frame, book, lot):
    """The corners, cut to the lot, of the sayings that are wrong for it, in the order of the book."""
    check_frame(frame)
    check_book(frame[0], book)
    check_lot(frame, lot)
    return corners_against(book, lot)


def corners_against(book, lot):
    return tuple([cut(corner, lot) for group, number, corner in book if is_wrong(group, number, lot)])


def is_wrong(group, number, lot):
    """Whether fewer of the group than the number are false if just the lot is true."""
    return number > false_of(group, lot)


def false_of(group, lot):
    """How many of the group are false if just the lot is true."""
    return len([at for at in group if at not in lot])


def cut(corner, lot):
    return tuple([limit if at in lot else None for at, limit in enumerate(corner)])


def risk(frame, book):
    """The greatest chance, over all lots, that some saying that is wrong for the lot says so."""
    check_frame(frame)
    check_book(frame[0], book)
    return riskiest_of(frame, book)[1]


def riskiest(frame, book):
    """The first lot whose chance is the risk."""
    check_frame(frame)
    check_book(frame[0], book)
    return riskiest_of(frame, book)[0]


def riskiest_of(frame, book):
    """The first lot with the greatest chance, and this chance."""
    count, lots = frame
    found = None
    for lot in lots:
        chance = chance_of(count, corners_against(book, lot))
        if found is None or not is_at_most(chance, found[1]):
            found = (lot, chance)
    return found
