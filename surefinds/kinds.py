"""Of what kind a value is. Each function takes any value and changes none."""

from math import gcd

from surefinds.exact import NIL, ONE, is_at_most, sum_of

MOST_COUNT = 5


def is_whole(value):
    # True and False are of a kind of their own, not whole numbers.
    return type(value) is int


def is_row(value, many):
    return type(value) is tuple and len(value) == many


def is_count(value):
    return is_whole(value) and 1 <= value <= MOST_COUNT


def tells_count(value):
    """Whether a value is a tuple of as many elements as there can be suppositions."""
    return type(value) is tuple and is_count(len(value))


def is_fraction(value):
    if not is_row(value, 2):
        return False
    top, bottom = value
    return is_whole(top) and is_whole(bottom) and bottom > 0 and gcd(top, bottom) == 1


def is_number(value):
    return is_fraction(value) and 0 <= value[0] <= value[1]


def are_numbers(count, value):
    return is_row(value, count) and all([is_number(each) for each in value])


def is_limit(value):
    return value is None or is_number(value)


def is_corner(count, value):
    return is_row(value, count) and all([is_limit(limit) for limit in value])


def is_weight(value):
    return is_fraction(value) and value[0] >= 0


def is_degree(value):
    return is_number(value) and value[0] > 0


def is_price(count, value):
    if not is_row(value, 3):
        return False
    index, limit, price = value
    return is_index(count, index) and is_number(limit) and is_fraction(price) and price[0] > 0


def is_worth(count, value):
    return is_row(value, 2) and is_corner(count, value[0]) and is_weight(value[1])


def is_web_row(count, index, value):
    if not is_row(value, count) or not all([is_weight(each) for each in value]):
        return False
    return value[index] == NIL and is_at_most(sum_of(value), ONE)


def is_index(count, value):
    return is_whole(value) and 0 <= value < count


def is_ascending(row):
    return all([one < other for one, other in zip(row, row[1:])])


def is_set(count, value):
    if type(value) is not tuple or len(value) == 0:
        return False
    return all([is_index(count, each) for each in value]) and is_ascending(value)


def is_tie(count, value):
    if not is_row(value, 2):
        return False
    group, index = value
    return is_set(count, group) and is_index(count, index) and index not in group


def is_saying(count, value):
    if not is_row(value, 3):
        return False
    group, number, corner = value
    if not is_set(count, group) or not is_whole(number):
        return False
    return 1 <= number <= len(group) and is_corner(count, corner)


def is_bar(count, value):
    if not is_row(value, 2):
        return False
    lot, corner = value
    if not is_set(count, lot) or not is_corner(count, corner):
        return False
    return all([limit is None or at in lot for at, limit in enumerate(corner)])


def first_wrong(row, most, is_right):
    """The index of the first that is not right or is one more than most; how many there are, if none is."""
    for at, each in enumerate(row):
        if at == most or not is_right(each):
            return at
    return len(row)
