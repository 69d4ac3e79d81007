"""Shares of wrong calls: at numbers, at worst, and on the mean of numbers that are apart."""

import random
import unittest
from fractions import Fraction
from itertools import product

from surefinds.certificates import certify_mean
from surefinds.chances import apart_mean, greatest_chance, greatest_mean
from surefinds.checker import accepts
from surefinds.shares import apart_share, greatest_share, share, share_worths
from surefinds.ways import step_up
from tests.support import (ONE, drawn_limits, drawn_number, is_plain_fraction, numbers_beside, pair, plain_step_up,
                           subsets, whole_of, worth_at)

NIL, HALF, THIRD, QUARTER, TENTH = (0, 1), (1, 2), (1, 3), (1, 4), (1, 10)
RISING = ((1, 30), (1, 15), TENTH)
LONG = 10 ** 399


def plain_share(numbers, limits, lot):
    found = plain_step_up(numbers, limits)
    return Fraction(len(set(found) & set(lot)), len(found)) if found else Fraction(0)


def plain_worths(limits, lot):
    found = []
    for others in range(len(limits) - len(lot) + 1):
        for group in subsets(lot):
            calls = len(group) + others
            corner = tuple(limits[calls - 1] if at in group else None for at in range(len(limits)))
            found.append((corner, pair(len(group), calls)))
    return tuple(found)


def plain_apart_share(limits, lot, numbers):
    """The sum, over all cells of the lot's numbers between neighbouring limits, of chance times share."""
    ends = sorted({whole_of(limit) for limit in limits} | {Fraction(0), Fraction(1)})
    mean = Fraction(0)
    for cell in product(list(zip(ends, ends[1:])), repeat=len(lot)):
        chance, found = Fraction(1), list(numbers)
        for at, (low, high) in zip(lot, cell):
            chance *= high - low
            found[at] = pair(high)
        mean += chance * plain_share(found, limits, lot)
    return pair(mean)


def drawn_lot(draw, count):
    return draw.choice(subsets(range(count)))


class Share(unittest.TestCase):

    def test_by_hand(self):
        found = ((1, 50), (1, 25), HALF)
        self.assertEqual(share(found, RISING, (0,)), HALF)
        self.assertEqual(share(found, RISING, (2,)), NIL)
        self.assertEqual(share(found, RISING, (0, 1)), ONE)
        self.assertEqual(share(found, RISING, (1, 2)), HALF)
        self.assertEqual(share((HALF, ONE, HALF), RISING, (0, 1, 2)), NIL)
        self.assertEqual(share((TENTH, TENTH, TENTH), RISING, (0, 2)), (2, 3))
        self.assertEqual(share(lot=(1,), limits=RISING, numbers=(TENTH, TENTH, TENTH)), THIRD)
        self.assertEqual(share((NIL,), (NIL,), (0,)), ONE)
        self.assertEqual(share((NIL, NIL, ONE, NIL, NIL), (NIL,) * 5, (1, 2, 4)), HALF)

    def test_drawn(self):
        draw = random.Random(1)
        shares = {}
        for _ in range(500):
            count = draw.randint(1, 5)
            limits, lot = drawn_limits(draw, count, draw.choice((4, 30))), drawn_lot(draw, count)
            numbers = numbers_beside(draw, count, [whole_of(limit) for limit in limits], 6)
            told = share(numbers, limits, lot)
            self.assertEqual(told, pair(plain_share(numbers, limits, lot)))
            calls = step_up(numbers, limits)
            self.assertEqual(whole_of(told) * len(calls), len([at for at in calls if at in lot]))
            shares[told] = True
        self.assertGreater(len(shares), 8)


class Worths(unittest.TestCase):

    def test_by_hand(self):
        self.assertEqual(share_worths(RISING, (0,)), (
            (((1, 30), None, None), ONE), (((1, 15), None, None), HALF), ((TENTH, None, None), THIRD)))
        self.assertEqual(share_worths(lot=(0, 2), limits=RISING), (
            (((1, 30), None, None), ONE), (((1, 15), None, (1, 15)), ONE), ((None, None, (1, 30)), ONE),
            (((1, 15), None, None), HALF), ((TENTH, None, TENTH), (2, 3)), ((None, None, (1, 15)), HALF)))
        self.assertEqual(share_worths((HALF,), (0,)), (((HALF,), ONE),))
        self.assertEqual(share_worths((NIL, HALF), (1,)), (((None, NIL), ONE), ((None, HALF), HALF)))

    def test_all_lots(self):
        draw = random.Random(2)
        for count in range(1, 6):
            limits = drawn_limits(draw, count, 20)
            for lot in subsets(range(count)):
                told = share_worths(limits, lot)
                self.assertEqual(told, plain_worths(limits, lot))
                self.assertEqual(len(told), (count - len(lot) + 1) * (2 ** len(lot) - 1))

    def test_the_worth_at_numbers_is_the_greatest_share(self):
        draw = random.Random(3)
        for _ in range(120):
            count = draw.randint(1, 4)
            limits, lot = drawn_limits(draw, count, 9), drawn_lot(draw, count)
            numbers = numbers_beside(draw, count, [whole_of(limit) for limit in limits], 6)
            others = [at for at in range(count) if at not in lot]
            shares = []
            for bad in product((NIL, ONE) + limits, repeat=len(others)):
                found = list(numbers)
                for at, number in zip(others, bad):
                    found[at] = number
                shares.append(plain_share(found, limits, lot))
            self.assertEqual(max(shares), worth_at(share_worths(limits, lot), [whole_of(each) for each in numbers]))


class Greatest(unittest.TestCase):

    def test_by_hand(self):
        self.assertEqual(greatest_share(RISING, (0, 1, 2)), (11, 60))
        self.assertEqual(greatest_share(RISING, (0,)), (11, 180))
        self.assertEqual(greatest_share(lot=(2,), limits=RISING), (11, 180))
        self.assertEqual(greatest_share((HALF,), (0,)), HALF)
        self.assertEqual(greatest_share((NIL, NIL), (0, 1)), NIL)
        self.assertEqual(greatest_share((NIL, HALF), (1,)), QUARTER)
        self.assertEqual(greatest_share((HALF, HALF), (0, 1)), ONE)
        self.assertEqual(greatest_share((HALF, HALF), (0,)), HALF)

    def test_lots_of_one(self):
        # Each fall below a further limit raises the share of a single true one from 1 / j to 1 / (j - 1).
        draw = random.Random(4)
        for count in range(1, 6):
            limits = drawn_limits(draw, count, 20)
            told = sum((whole_of(limits[at]) * (Fraction(1, at + 1) - Fraction(1, at + 2)) for at in range(count - 1)),
                       whole_of(limits[-1]) / count)
            for at in range(count):
                self.assertEqual(greatest_share(limits, (at,)), pair(told))

    def test_lots_of_all(self):
        for count in range(1, 6):
            for degree in (Fraction(1, 10), Fraction(6, 11), Fraction(99, 100)):
                limits = tuple(pair(at * degree / count) for at in range(1, count + 1))
                told = degree * sum(Fraction(1, at) for at in range(1, count + 1))
                self.assertEqual(greatest_share(limits, tuple(range(count))), pair(min(Fraction(1), told)))

    def test_for_a_lot_of_all_it_is_the_chance_of_any_call(self):
        draw = random.Random(5)
        for count in range(1, 6):
            limits = tuple(pair(whole_of(limit) / count) for limit in drawn_limits(draw, count, 20))
            lot = tuple(range(count))
            corners = tuple(corner for corner, _ in plain_worths(limits, lot))
            self.assertEqual(greatest_share(limits, lot), greatest_chance(count, corners))

    def test_drawn(self):
        draw = random.Random(6)
        for _ in range(60):
            count = draw.randint(1, 5)
            limits, lot = drawn_limits(draw, count, 20), drawn_lot(draw, count)
            told, worths = greatest_share(limits, lot), share_worths(limits, lot)
            self.assertEqual(told, greatest_mean(count, plain_worths(limits, lot)))
            self.assertEqual(told, greatest_mean(count, worths))
            self.assertTrue(accepts(*certify_mean(count, worths, told)))
            self.assertGreaterEqual(whole_of(told), whole_of(apart_mean(count, worths)))


class Apart(unittest.TestCase):

    def test_by_hand(self):
        self.assertEqual(apart_share(RISING, (0, 1), (ONE, ONE, HALF)), (1, 15))
        self.assertEqual(apart_share(RISING, (0, 1), (ONE, ONE, NIL)), (1, 15))
        self.assertEqual(apart_share(numbers=(HALF,), lot=(0,), limits=(THIRD,)), THIRD)
        self.assertEqual(apart_share((NIL, NIL), (0, 1), (NIL, NIL)), NIL)
        # With the other one at 0 half of the calls are wrong up to 2 / 3, with it at 1 the only one up to 1 / 4.
        self.assertEqual(apart_share((QUARTER, (2, 3)), (0,), (ONE, NIL)), THIRD)
        self.assertEqual(apart_share((QUARTER, (2, 3)), (0,), (ONE, ONE)), QUARTER)
        self.assertEqual(apart_share((QUARTER, (2, 3)), (0,), (ONE, (2, 3))), THIRD)
        self.assertEqual(apart_share((QUARTER, HALF), (0, 1), (ONE, ONE)), HALF)

    def test_limits_that_grow_evenly(self):
        draw = random.Random(7)
        for count in range(1, 6):
            for degree in (Fraction(1, 20), Fraction(5, 7), Fraction(99, 100)):
                limits = tuple(pair(at * degree / count) for at in range(1, count + 1))
                ends = [whole_of(limit) for limit in limits]
                for lot in subsets(range(count)):
                    numbers = numbers_beside(draw, count, ends, 5)
                    self.assertEqual(apart_share(limits, lot, numbers), pair(degree * len(lot) / count))

    def test_drawn(self):
        draw = random.Random(8)
        unlike = 0
        for _ in range(150):
            count = draw.randint(1, 4)
            limits, lot = drawn_limits(draw, count, draw.choice((4, 20))), drawn_lot(draw, count)
            numbers = numbers_beside(draw, count, [whole_of(limit) for limit in limits], 6)
            told = apart_share(limits, lot, numbers)
            self.assertEqual(told, plain_apart_share(limits, lot, numbers))
            self.assertEqual(apart_share(numbers=numbers, lot=lot, limits=limits), told)
            self.assertLessEqual(whole_of(told), whole_of(greatest_share(limits, lot)))
            unlike += told != pair(whole_of(limits[-1]) * len(lot) / count)
        self.assertGreater(unlike, 50)

    def test_five_suppositions(self):
        draw = random.Random(9)
        for lot in ((0, 1, 2, 3, 4), (0, 2, 3, 4), (1, 2, 3), (3,)):
            limits = drawn_limits(draw, 5, 20)
            numbers = numbers_beside(draw, 5, [whole_of(limit) for limit in limits], 6)
            self.assertEqual(apart_share(limits, lot, numbers), plain_apart_share(limits, lot, numbers))

    def test_for_a_lot_of_all_it_is_the_mean_of_the_worths(self):
        draw = random.Random(10)
        for count in range(1, 5):
            limits, lot = drawn_limits(draw, count, 9), tuple(range(count))
            self.assertEqual(apart_share(limits, lot, (NIL,) * count), apart_mean(count, share_worths(limits, lot)))

    def test_numbers_of_the_lot_count_nothing(self):
        draw = random.Random(11)
        for _ in range(60):
            count = draw.randint(1, 5)
            limits, lot = drawn_limits(draw, count, 9), drawn_lot(draw, count)
            numbers = numbers_beside(draw, count, [whole_of(limit) for limit in limits], 6)
            others = tuple(drawn_number(draw, 9) if at in lot else number for at, number in enumerate(numbers))
            self.assertEqual(apart_share(limits, lot, numbers), apart_share(limits, lot, others))

    def test_long_numbers(self):
        limits = tuple(pair(LONG // part + 1, LONG - part) for part in (9, 7, 5, 3, 2))
        for lot in ((0, 1, 2, 3, 4), (1, 4)):
            told = apart_share(limits, lot, (NIL, ONE, limits[2], pair(LONG // 3 - 1, LONG), ONE))
            self.assertTrue(is_plain_fraction(told))
            self.assertLessEqual(whole_of(told), whole_of(greatest_share(limits, lot)))
        self.assertEqual(apart_share(limits[:2], (0, 1), (NIL, NIL)),
                         plain_apart_share(limits[:2], (0, 1), (NIL, NIL)))


class Whole(unittest.TestCase):

    def test_arguments_are_left_alone(self):
        numbers = ((1, 50), (1, 25), HALF)
        kept = repr((numbers, RISING))
        again = eval(kept)
        self.assertEqual(share(numbers, RISING, (0, 2)), share(*again, (0, 2)))
        self.assertEqual(share_worths(RISING, (0, 2)), share_worths(again[1], (0, 2)))
        self.assertEqual(greatest_share(RISING, (0, 2)), greatest_share(again[1], (0, 2)))
        self.assertEqual(apart_share(RISING, (0, 2), numbers), apart_share(again[1], (0, 2), again[0]))
        self.assertEqual(repr((numbers, RISING)), kept)
        self.assertEqual(repr(again), kept)


if __name__ == "__main__":
    unittest.main()
