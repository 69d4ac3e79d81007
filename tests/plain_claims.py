"""The checker, as the document's words have it: written once more, over Fractions, for the tests."""

from collections import Counter
from fractions import Fraction
from itertools import product
from math import gcd

from tests.support import (binds, is_inside, plain_called, plain_cells, plain_ends, plain_possible, plain_sure, subsets,
                           whole_of)


def is_row(value, many=None):
    return type(value) is tuple and (many is None or len(value) == many)


def is_int(value, low, high):
    return type(value) is int and low <= value <= high


def is_fraction(value):
    return (is_row(value, 2) and type(value[0]) is int and type(value[1]) is int and value[1] > 0
            and gcd(value[0], value[1]) == 1)


def is_from_0(value):
    return is_fraction(value) and value[0] >= 0


def is_number(value):
    return is_from_0(value) and whole_of(value) <= 1


def are_numbers(count, value):
    return is_row(value, count) and all(is_number(each) for each in value)


def is_corner(count, value):
    return is_row(value, count) and all(each is None or is_number(each) for each in value)


def are_corners(count, value):
    return is_row(value) and len(value) <= 60 and all(is_corner(count, each) for each in value)


def are_worths(count, value):
    return is_row(value) and len(value) <= 60 and all(
        is_row(each, 2) and is_corner(count, each[0]) and is_from_0(each[1]) for each in value)


def is_set(count, value):
    return (is_row(value) and len(value) > 0 and all(is_int(each, 0, count - 1) for each in value)
            and list(value) == sorted(set(value)))


def is_frame(value):
    return (is_row(value, 2) and is_int(value[0], 1, 5) and is_row(value[1]) and len(value[1]) > 0
            and all(is_set(value[0], each) for each in value[1]) and list(value[1]) == sorted(set(value[1])))


def is_book(count, value):
    return is_row(value) and len(value) <= 60 and all(
        is_row(each, 3) and is_set(count, each[0]) and is_int(each[1], 1, len(each[0])) and is_corner(count, each[2])
        for each in value)


def are_bars(count, value):
    if not is_row(value) or len(value) > 240 or not all(
            is_row(each, 2) and is_set(count, each[0]) and is_corner(count, each[1])
            and all(each[1][at] is None for at in range(count) if at not in each[0]) for each in value):
        return False
    return all(many <= 60 for many in Counter(lot for lot, _ in value).values())


def are_masses(corners, value):
    if not is_row(value, len(corners)) or not all(is_from_0(each) for each in value):
        return False
    found = [whole_of(each) for each in value]
    if sum(found) > 1:
        return False
    for index in range(len(corners[0]) if corners else 0):
        for limit in {corner[index] for corner in corners if corner[index] is not None}:
            bound = whole_of(limit)
            if sum(mass for mass, corner in zip(found, corners) if binds(corner[index], bound)) > bound:
                return False
    return True


def are_prices(count, value):
    if not is_row(value, 2) or not is_from_0(value[0]) or not is_row(value[1]):
        return False
    if not all(is_row(each, 3) and is_int(each[0], 0, count - 1) and is_number(each[1]) and is_from_0(each[2])
               and each[2][0] > 0 for each in value[1]):
        return False
    keys = [(index, whole_of(limit)) for index, limit, _ in value[1]]
    return keys == sorted(set(keys))


def keeps_up_to(count, worths, fraction, paper):
    if not are_prices(count, paper):
        return False
    base, triples = paper
    total = whole_of(base) + sum(whole_of(limit) * whole_of(price) for _, limit, price in triples)
    return total <= whole_of(fraction) and all(
        whole_of(base) + sum(whole_of(price) for at, limit, price in triples if binds(corner[at], whole_of(limit)))
        >= whole_of(told) for corner, told in worths)


def goes_above(worths, fraction, paper):
    if not are_masses([corner for corner, _ in worths], paper):
        return False
    return sum((whole_of(mass) * whole_of(told) for mass, (_, told) in zip(paper, worths)),
               Fraction(0)) > whole_of(fraction)


def as_worths(corners):
    return tuple((corner, (1, 1)) for corner in corners)


def wrong_worths(book, lot):
    return tuple((tuple(limit if at in lot else None for at, limit in enumerate(corner)), (1, 1))
                 for group, number, corner in book if number > len(set(group) - set(lot)))


def is_lot(frame, value):
    return is_set(frame[0], value) and value in frame[1]


def of_chance(word, parts, paper):
    count, corners, fraction = parts
    if not is_int(count, 1, 5) or not are_corners(count, corners) or not is_fraction(fraction):
        return False
    if word == "chance up to":
        return keeps_up_to(count, as_worths(corners), fraction, paper)
    return goes_above(as_worths(corners), fraction, paper)


def of_mean(word, parts, paper):
    count, worths, fraction = parts
    if not is_int(count, 1, 5) or not are_worths(count, worths) or not is_fraction(fraction):
        return False
    return keeps_up_to(count, worths, fraction, paper) if word == "mean up to" else goes_above(worths, fraction, paper)


def of_risk(word, parts, paper):
    frame, book, fraction = parts
    if not is_frame(frame) or not is_book(frame[0], book) or not is_fraction(fraction):
        return False
    if word == "risk up to":
        return is_row(paper, len(frame[1])) and all(
            keeps_up_to(frame[0], wrong_worths(book, lot), fraction, each) for lot, each in zip(frame[1], paper))
    return (is_row(paper, 2) and is_lot(frame, paper[0])
            and goes_above(wrong_worths(book, paper[0]), fraction, paper[1]))


def of_sure(word, parts, paper):
    frame, bars, numbers, group, number = parts
    if not is_frame(frame) or not are_bars(frame[0], bars) or not are_numbers(frame[0], numbers):
        return False
    if not is_set(frame[0], group) or not is_int(number, 1, len(group)):
        return False
    if word == "sure":
        return is_row(paper, 0) and plain_sure(frame, bars, numbers, group) >= number
    if not is_row(paper, 0) and not is_lot(frame, paper):
        return False
    return paper in plain_possible(frame, bars, numbers) and len(set(group) - set(paper)) < number


def many_cells(count, bars):
    found = 1
    for own in plain_ends(count, bars):
        found *= len(own)
    return found


def of_two(word, parts, paper):
    frame, bars, other = parts
    if not is_frame(frame) or not are_bars(frame[0], bars) or not are_bars(frame[0], other):
        return False
    sets = subsets(range(frame[0]))
    if word == "never less":
        return is_row(paper, 0) and many_cells(frame[0], bars + other) <= 4096 and all(
            plain_sure(frame, bars, cell, group) >= plain_sure(frame, other, cell, group)
            for cell, group in product(plain_cells(frame[0], bars + other), sets))
    return (is_row(paper, 2) and are_numbers(frame[0], paper[0]) and is_set(frame[0], paper[1])
            and plain_sure(frame, bars, *paper) < plain_sure(frame, other, *paper))


def is_quiet(frame, bars, numbers):
    return plain_called(frame, bars, numbers) == () and any(
        plain_sure(frame, bars, numbers, group) > 0 for group in subsets(range(frame[0])))


def of_own(word, parts, paper):
    frame, bars = parts
    if not is_frame(frame) or not are_bars(frame[0], bars):
        return False
    if word == "consonant":
        return is_row(paper, 0) and many_cells(frame[0], bars) <= 4096 and not any(
            is_quiet(frame, bars, cell) for cell in plain_cells(frame[0], bars))
    if word == "quiet":
        return are_numbers(frame[0], paper) and is_quiet(frame, bars, paper)
    if word == "coherent":
        return is_row(paper, 0) and not any(
            splits(frame, bars, lot, other, cell) for cell in plain_cells(frame[0], bars)
            for lot, other in product(frame[1], repeat=2))
    return (is_row(paper, 3) and is_lot(frame, paper[0]) and is_lot(frame, paper[1])
            and are_numbers(frame[0], paper[2]) and splits(frame, bars, *paper))


def splits(frame, bars, lot, other, numbers):
    barred = {own for own, corner in bars if is_inside(numbers, corner)}
    return set(lot) <= set(other) and lot in barred and other not in barred


KINDS = {"chance up to": (of_chance, 3), "chance above": (of_chance, 3), "mean up to": (of_mean, 3),
         "mean above": (of_mean, 3), "risk up to": (of_risk, 3), "risk above": (of_risk, 3), "sure": (of_sure, 5),
         "not sure": (of_sure, 5), "never less": (of_two, 3), "less": (of_two, 3), "consonant": (of_own, 2),
         "quiet": (of_own, 2), "coherent": (of_own, 2), "split": (of_own, 2)}
PAIRS = (("chance up to", "chance above"), ("mean up to", "mean above"), ("risk up to", "risk above"),
         ("sure", "not sure"), ("never less", "less"), ("consonant", "quiet"), ("coherent", "split"))
OPPOSITE = dict(PAIRS + tuple(pair[::-1] for pair in PAIRS))


def plain_accepts(claim, paper):
    if not is_row(claim) or not claim or type(claim[0]) is not str or claim[0] not in KINDS:
        return False
    look, many = KINDS[claim[0]]
    return is_row(claim, many + 1) and look(claim[0], claim[1:], paper)
