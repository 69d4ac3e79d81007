"""What the tests share: drawn arguments, plain oracles, and values that are of no told kind."""

from fractions import Fraction
from itertools import combinations, product

ONE = (1, 1)


def pair(value, bottom=1):
    value = Fraction(value, bottom)
    return (value.numerator, value.denominator)


def whole_of(fraction):
    return Fraction(*fraction)


def subsets(indexes):
    """All sets of some of the indexes, ascending."""
    return sorted(each for size in range(1, len(indexes) + 1) for each in combinations(indexes, size))


def is_plain_fraction(value):
    """Whether a value is a fraction in the told form, as the tests see it."""
    return (type(value) is tuple and len(value) == 2 and all(type(each) is int for each in value)
            and value == pair(whole_of(value)))


def binds(limit, number):
    return limit is not None and whole_of(limit) <= number


def worth_at(worths, numbers):
    """The worth at numbers, told as Fractions."""
    return max([whole_of(fraction) for corner, fraction in worths
                if all(limit is None or number <= whole_of(limit) for limit, number in zip(corner, numbers))],
               default=Fraction(0))


def plain_mean(count, worths):
    """The mean for numbers that are apart, cell by cell, each cell between neighbouring limits."""
    stretches = []
    for index in range(count):
        ends = {Fraction(0), Fraction(1)}
        ends.update(whole_of(corner[index]) for corner, _ in worths if corner[index] is not None)
        ends = sorted(ends)
        stretches.append(list(zip(ends, ends[1:])))
    mean = Fraction(0)
    for cell in product(*stretches):
        chance = Fraction(1)
        for low, high in cell:
            chance *= high - low
        mean += chance * worth_at(worths, [high for _, high in cell])
    return mean


def as_worths(corners):
    return tuple((corner, ONE) for corner in corners)


def fault_of_masses(count, worths, masses, told):
    """What is wrong with masses that should fit and reach the told mean; None for nothing."""
    if type(masses) is not tuple or len(masses) != len(worths):
        return "not as many as corners"
    if not all(is_plain_fraction(mass) for mass in masses):
        return "no fractions"
    found = [whole_of(mass) for mass in masses]
    if any(mass < 0 for mass in found) or sum(found) > 1:
        return "below 0 or above 1"
    for index in range(count):
        for limit in {corner[index] for corner, _ in worths if corner[index] is not None}:
            bound = whole_of(limit)
            if sum(mass for mass, (corner, _) in zip(found, worths) if binds(corner[index], bound)) > bound:
                return f"above the limit {limit} of {index}"
    if sum(mass * whole_of(fraction) for mass, (_, fraction) in zip(found, worths)) != whole_of(told):
        return "another sum"
    return None


def fault_of_prices(count, worths, prices, told):
    """What is wrong with prices that should bar and cost the told mean; None for nothing."""
    if type(prices) is not tuple or len(prices) != 2 or type(prices[1]) is not tuple:
        return "no pair of a fraction and a tuple"
    base, triples = prices
    if not is_plain_fraction(base) or whole_of(base) < 0:
        return "a wrong first price"
    for triple in triples:
        if type(triple) is not tuple or len(triple) != 3:
            return "no triple"
        index, limit, price = triple
        if type(index) is not int or not 0 <= index < count:
            return "a wrong index"
        if not is_plain_fraction(limit) or not 0 <= whole_of(limit) <= 1:
            return "a wrong limit"
        if not is_plain_fraction(price) or whole_of(price) <= 0:
            return "a wrong price"
    keys = [(index, whole_of(limit)) for index, limit, _ in triples]
    if any(one >= other for one, other in zip(keys, keys[1:])):
        return "not in order"
    for corner, fraction in worths:
        paid = sum(whole_of(price) for index, limit, price in triples if binds(corner[index], whole_of(limit)))
        if whole_of(base) + paid < whole_of(fraction):
            return f"{corner} is not barred"
    if whole_of(base) + sum(whole_of(limit) * whole_of(price) for _, limit, price in triples) != whole_of(told):
        return "another sum"
    return None


def drawn_number(draw, most):
    """A number with a bottom up to most; now and then 0 or 1."""
    if draw.random() < 0.08:
        return draw.choice(((0, 1), ONE))
    bottom = draw.randint(1, most)
    return pair(draw.randint(0, bottom), bottom)


def drawn_corner(draw, count, most, open_share):
    return tuple(None if draw.random() < open_share else drawn_number(draw, most) for _ in range(count))


def drawn_corners(draw, count, many, most, open_share):
    corners = [drawn_corner(draw, count, most, open_share) for _ in range(many)]
    if many > 3 and draw.random() < 0.4:
        corners[draw.randrange(many)] = corners[0]
    return tuple(corners)


def balanced_corners(draw, count, many, scale):
    """Corners none of which lies within another one but by chance: the sums of their limits are about alike."""
    corners = []
    for _ in range(many):
        parts = [draw.randint(1, 1000) for _ in range(count)]
        corners.append(tuple(pair(min(Fraction(1), Fraction(part, sum(parts)) * scale)) for part in parts))
    return tuple(corners)


def drawn_fraction(draw, most):
    """A fraction from 0 on, now and then 0 or above 1."""
    return pair(draw.choice((0, 1, 1, 1, 3)) * draw.randint(0, most), draw.randint(1, most))


def drawn_worths(draw, corners, most):
    return tuple((corner, drawn_fraction(draw, most)) for corner in corners)


def drawn_saying(draw, count, most):
    group = draw.choice(subsets(range(count)))
    return (group, draw.randint(1, len(group)), drawn_corner(draw, count, most, 0.3))


def drawn_book(draw, count, many):
    return tuple(drawn_saying(draw, count, draw.choice((4, 30))) for _ in range(many))


def drawn_frame(draw, count):
    """The full frame, or one with some of the sets."""
    lots = subsets(range(count))
    many = len(lots) if draw.random() < 0.4 else draw.randint(1, len(lots))
    return (count, tuple(sorted(draw.sample(lots, many))))


def drawn_bars(draw, count, many, most, open_share=0.3):
    """Bars of any sets, like pairs among them, with limits of few bottoms."""
    found = []
    for _ in range(many):
        lot = draw.choice(subsets(range(count)))
        corner = drawn_corner(draw, count, most, open_share)
        found.append((lot, tuple(limit if at in lot else None for at, limit in enumerate(corner))))
    if many > 3 and draw.random() < 0.4:
        found[draw.randrange(many)] = found[0]
    return tuple(found)


def drawn_numbers(draw, count, corners, most):
    """Numbers of which some are just at limits of the corners."""
    found = []
    for index in range(count):
        limits = [corner[index] for corner in corners if corner[index] is not None]
        found.append(draw.choice(limits) if limits and draw.random() < 0.5 else drawn_number(draw, most))
    return tuple(found)


def drawn_limits(draw, count, most):
    """Limits below 1, none below the one before it; like ones and 0 among them."""
    found = []
    for _ in range(count):
        bottom = draw.randint(1, most)
        found.append(pair(draw.randrange(bottom), bottom))
    return tuple(sorted(found, key=whole_of))


def numbers_beside(draw, count, ends, most):
    """Numbers of which some are just at the ends, which are Fractions, and some a little above one."""
    found = []
    for _ in range(count):
        number = whole_of(drawn_number(draw, most))
        if ends and draw.random() < 0.7:
            number = draw.choice(ends) + draw.choice((0, 0, 0, Fraction(1, 10 ** 50)))
        found.append(pair(min(Fraction(1), number)))
    return tuple(found)


def up_to_limits(numbers, limits):
    """The numbers in order, the least first, with their indexes, and whether each is at most the limit of its place."""
    ordered = sorted((whole_of(number), at) for at, number in enumerate(numbers))
    return [at for _, at in ordered], [number <= whole_of(limit) for (number, _), limit in zip(ordered, limits)]


def plain_step_down(numbers, limits):
    order, within = up_to_limits(numbers, limits)
    found = max(r for r in range(len(limits) + 1) if all(within[:r]))
    return tuple(sorted(order[:found]))


def plain_step_up(numbers, limits):
    order, within = up_to_limits(numbers, limits)
    found = max(r for r in range(len(limits) + 1) if r == 0 or within[r - 1])
    return tuple(sorted(order[:found]))


def is_inside(numbers, corner):
    return all(limit is None or whole_of(number) <= whole_of(limit) for number, limit in zip(numbers, corner))


def plain_possible(frame, bars, numbers):
    """The possible lots, as the document's words have it."""
    return [()] + [lot for lot in frame[1]
                   if not any(own == lot and is_inside(numbers, corner) for own, corner in bars)]


def plain_sure(frame, bars, numbers, group):
    return min(len(set(group) - set(lot)) for lot in plain_possible(frame, bars, numbers))


def plain_called(frame, bars, numbers):
    return tuple(index for index in range(frame[0]) if plain_sure(frame, bars, numbers, (index,)) == 1)


def plain_ends(count, bars):
    """For each supposition its unlike limits and 1."""
    found = []
    for index in range(count):
        limits = {corner[index] for _, corner in bars if corner[index] is not None}
        found.append(sorted(limits | {ONE}, key=whole_of))
    return found


def plain_cells(count, bars):
    return list(product(*plain_ends(count, bars)))


class Odd:
    """A value of no kind that the program knows; to be compared with it is a fault."""

    def __eq__(self, other):
        raise AssertionError("compared")

    __hash__ = None

    def __len__(self):
        raise AssertionError("measured")

    def __iter__(self):
        raise AssertionError("iterated over")


def nested(depth):
    value = ()
    for _ in range(depth):
        value = (value,)
    return value


ODD_VALUES = (None, True, False, "", "ab", b"a", [], [1, 2], {}, {0: 1}, set(), frozenset((1,)), range(2), Odd(), Odd,
              len, Ellipsis, object(), nested(13), 10 ** 399, -1)

NOT_WHOLE = tuple(each for each in ODD_VALUES if type(each) is not int) + ((), (1,))

NOT_FRACTIONS = tuple(each for each in ODD_VALUES if each is not None) + (
    (), (1,), (1, 2, 3), (2, 4), (0, 2), (0, 5), (3, 3), (-2, 4), (1, 0), (0, 0), (1, -2), (-1, -2), (0, -1),
    (True, 2), (1, True), (False, 1), [1, 2], [0, 1], (None, 2), (1, None), ("1", 2), (1, "2"), (Odd(), 1), (1, Odd()),
    ((1, 2), 1), (1, (2,)), (10 ** 399, 10 ** 398), "12", b"12", {1: 2, 3: 4})

NOT_NUMBERS = NOT_FRACTIONS + ((-1, 2), (3, 2), (2, 1), (-1, 1), (10 ** 399 + 1, 10 ** 399))

NOT_COUNTS = NOT_WHOLE + (0, 6, -1, 7, 10 ** 399, (2,), [2], "2")
