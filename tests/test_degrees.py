"""Degrees: scaled bars, and the least degree at which so many of a set are surely false."""

import random
import unittest
from fractions import Fraction

from surefinds.bars import sure_count
from surefinds.degrees import least_degree, scaled_bars
from surefinds.frames import full_frame
from tests.support import ONE, drawn_bars, drawn_frame, drawn_number, drawn_numbers, pair, plain_sure, subsets, whole_of

NIL, HALF, THIRD, QUARTER, TENTH = (0, 1), (1, 2), (1, 3), (1, 4), (1, 10)
LONG = 10 ** 399


def times(bars, degree):
    """The bars with all limits times the degree, 0 let."""
    return tuple((lot, tuple(None if limit is None else pair(whole_of(limit) * degree) for limit in corner))
                 for lot, corner in bars)


def plain_least(frame, bars, numbers, group, number):
    """The least of all degrees at which some number is just at a limit, and 0, by which the sure count is reached."""
    degrees = {Fraction(0)}
    for _, corner in bars:
        for limit, found in zip(corner, numbers):
            if limit is not None and limit != NIL and whole_of(found) <= whole_of(limit):
                degrees.add(whole_of(found) / whole_of(limit))
    for degree in sorted(degrees):
        if plain_sure(frame, times(bars, degree), numbers, group) >= number:
            return pair(degree)
    return None


class Scaled(unittest.TestCase):

    def test_by_hand(self):
        bars = (((1,), (None, THIRD)), ((0, 1), (HALF, ONE)), ((0, 1), (NIL, None)), ((0,), (None, None)))
        self.assertEqual(scaled_bars(full_frame(2), bars, (3, 4)), (
            ((1,), (None, QUARTER)), ((0, 1), ((3, 8), (3, 4))), ((0, 1), (NIL, None)), ((0,), (None, None))))
        self.assertEqual(scaled_bars(full_frame(2), bars, ONE), bars)
        self.assertEqual(scaled_bars(full_frame(2), (), HALF), ())
        self.assertEqual(scaled_bars(degree=HALF, bars=bars[:2], frame=(2, ((0,),))), (
            ((1,), (None, (1, 6))), ((0, 1), (QUARTER, HALF))))

    def test_drawn(self):
        draw = random.Random(1)
        for _ in range(100):
            count = draw.randint(1, 5)
            frame, bars = drawn_frame(draw, count), drawn_bars(draw, count, draw.choice((0, 3, 20, 60)), 30)
            bottom = draw.randint(1, 40)
            degree = pair(draw.randint(1, bottom), bottom)
            told = scaled_bars(frame, bars, degree)
            self.assertEqual(told, times(bars, whole_of(degree)))
            self.assertEqual(scaled_bars(frame, bars, ONE), bars)

    def test_scaled_again_and_again(self):
        frame, bars = full_frame(2), (((0, 1), ((LONG - 1, LONG), THIRD)),)
        degree = (LONG - 3, LONG)
        for power in range(1, 6):
            bars = scaled_bars(frame, bars, degree)
            self.assertEqual(bars, (((0, 1), (pair(Fraction(LONG - 1, LONG) * whole_of(degree) ** power),
                                              pair(Fraction(1, 3) * whole_of(degree) ** power))),))


class Least(unittest.TestCase):

    SINGLE = (((0,), (HALF, None)), ((0, 1), (QUARTER, None)), ((0, 1), (None, QUARTER)), ((1,), (None, HALF)))

    def least(self, frame, bars, numbers, group, number):
        """What is told, after a look at whether it is right."""
        told = least_degree(frame, bars, numbers, group, number)
        self.assertEqual(told, plain_least(frame, bars, numbers, group, number))
        self.assertEqual(least_degree(number=number, group=group, numbers=numbers, bars=bars, frame=frame), told)
        if told is None:
            self.assertLess(sure_count(frame, bars, numbers, group), number)
        elif told == NIL:
            self.assertGreaterEqual(sure_count(frame, scaled_bars(frame, bars, (1, LONG)), numbers, group), number)
            self.assertGreaterEqual(plain_sure(frame, times(bars, 0), numbers, group), number)
        else:
            self.assertGreaterEqual(sure_count(frame, scaled_bars(frame, bars, told), numbers, group), number)
            self.assertGreaterEqual(sure_count(frame, bars, numbers, group), number)
            less = pair(whole_of(told) * Fraction(LONG - 1, LONG))
            self.assertLess(sure_count(frame, scaled_bars(frame, bars, less), numbers, group), number)
        return told

    def test_by_hand(self):
        full, numbers = full_frame(2), ((1, 5), HALF)
        self.assertEqual(self.least(full, self.SINGLE, numbers, (0,), 1), (4, 5))
        self.assertEqual(self.least(full, self.SINGLE, numbers, (0, 1), 1), (4, 5))
        self.assertEqual(self.least(full, self.SINGLE, numbers, (1,), 1), ONE)
        self.assertEqual(self.least(full, self.SINGLE, numbers, (0, 1), 2), ONE)
        self.assertEqual(self.least(full, self.SINGLE, (TENTH, (501, 1000)), (1,), 1), None)
        self.assertEqual(self.least(full, self.SINGLE, (QUARTER, HALF), (0, 1), 1), ONE)
        self.assertEqual(self.least(full, self.SINGLE, ((13, 50), HALF), (0, 1), 1), None)

    def test_the_numbers_0(self):
        full = full_frame(2)
        self.assertEqual(self.least(full, self.SINGLE, (NIL, ONE), (0,), 1), NIL)
        self.assertEqual(self.least(full, self.SINGLE, (NIL, NIL), (0, 1), 2), NIL)
        self.assertEqual(self.least(full, self.SINGLE, (NIL, HALF), (0, 1), 2), ONE)
        self.assertEqual(self.least(full, self.SINGLE, (NIL, ONE), (1,), 1), None)

    def test_the_limits_0(self):
        bars = (((0,), (NIL,)),)
        self.assertEqual(self.least(full_frame(1), bars, (NIL,), (0,), 1), NIL)
        self.assertEqual(self.least(full_frame(1), bars, ((1, LONG),), (0,), 1), None)
        both = (((0, 1), (NIL, HALF)),)
        self.assertEqual(self.least((2, ((0, 1),)), both, (NIL, QUARTER), (0, 1), 2), HALF)
        self.assertEqual(self.least((2, ((0, 1),)), both, (TENTH, QUARTER), (0, 1), 2), None)
        other = both + (((0, 1), (QUARTER, None)),)
        self.assertEqual(self.least((2, ((0, 1),)), other, (TENTH, QUARTER), (0, 1), 2), (2, 5))
        self.assertEqual(self.least((2, ((0, 1),)), other[::-1], (TENTH, QUARTER), (0, 1), 2), (2, 5))

    def test_the_limit_1_is_one_like_others_and_none_asks_nothing(self):
        frame = (2, ((0, 1),))
        self.assertEqual(self.least(frame, (((0, 1), (ONE, HALF)),), (THIRD, TENTH), (0, 1), 1), THIRD)
        self.assertEqual(self.least(frame, (((0, 1), (None, HALF)),), (THIRD, TENTH), (0, 1), 1), (1, 5))
        self.assertEqual(self.least(frame, (((0, 1), (ONE, None)),), (ONE, ONE), (0, 1), 1), ONE)
        self.assertEqual(self.least(frame, (((0, 1), (None, None)),), (ONE, ONE), (0, 1), 1), NIL)
        self.assertEqual(self.least(frame, (((0, 1), (HALF, None)), ((0, 1), (None, None))), (ONE, ONE), (0,), 1), NIL)

    def test_sets_that_no_lot_leaves_fewer_false_of(self):
        frame = (3, ((0,), (1,)))
        self.assertEqual(self.least(frame, (), (ONE, ONE, ONE), (2,), 1), NIL)
        self.assertEqual(self.least(frame, (), (ONE, ONE, ONE), (0, 1), 1), NIL)
        self.assertEqual(self.least(frame, (), (ONE, ONE, ONE), (0, 1, 2), 2), NIL)
        self.assertEqual(self.least(frame, (), (NIL, NIL, NIL), (0, 1, 2), 3), None)
        self.assertEqual(self.least(frame, (((0,), (ONE, None, None)),), (HALF, ONE, ONE), (0, 2), 2), HALF)

    def test_a_lot_without_corners(self):
        full = full_frame(2)
        self.assertEqual(self.least(full, self.SINGLE[1:], (NIL, NIL), (0,), 1), None)
        self.assertEqual(self.least(full, self.SINGLE[1:], (NIL, NIL), (1,), 1), NIL)
        self.assertEqual(self.least(full, (), (NIL, NIL), (0, 1), 1), None)

    def test_sets_that_are_no_lots_do_not_count(self):
        frame = (2, ((0, 1),))
        bars = (((0, 1), (HALF, HALF)), ((0,), (None, None)), ((1,), (None, TENTH)))
        self.assertEqual(self.least(frame, bars, (QUARTER, TENTH), (0,), 1), HALF)
        self.assertEqual(self.least(frame, bars, (QUARTER, QUARTER), (0, 1), 2), HALF)

    def test_drawn(self):
        draw = random.Random(2)
        found = {}
        for _ in range(500):
            count = draw.randint(1, 4)
            frame = (count, draw.choice((tuple(subsets(range(count))), drawn_frame(draw, count)[1])))
            bars = self.drawn(draw, count)
            if draw.random() < 0.5:
                numbers = drawn_numbers(draw, count, [corner for _, corner in bars], 9)
            else:
                numbers = tuple(pair(whole_of(drawn_number(draw, 9)) / 3) for _ in range(count))
            group = draw.choice(subsets(range(count)))
            told = self.least(frame, bars, numbers, group, draw.randint(1, len(group)))
            kind = told if told in (None, NIL, ONE) else HALF
            found[kind] = found.get(kind, 0) + 1
        self.assertGreater(min(found.get(kind, 0) for kind in (None, NIL, HALF, ONE)), 20)

    def drawn(self, draw, count):
        """Bars of all sets, or of some."""
        if draw.random() < 0.3:
            return drawn_bars(draw, count, draw.choice((0, 4, 15)), 6)
        bars = []
        for lot in subsets(range(count)):
            for _ in range(draw.randint(1, 3)):
                corner = [draw.choice((None, ONE, drawn_number(draw, 5), drawn_number(draw, 5))) for _ in range(count)]
                bars.append((lot, tuple(limit if at in lot else None for at, limit in enumerate(corner))))
        return tuple(bars)

    def test_long_numbers(self):
        bars = (((0, 1), ((LONG - 1, LONG), None)), ((0, 1), (None, (LONG - 7, LONG))), ((0,), ((1, 3), None)))
        numbers = ((1, LONG - 9), (LONG - 8, LONG - 1))
        for group in ((0,), (0, 1)):
            self.least(full_frame(2), bars, numbers, group, 1)
        self.assertEqual(self.least((2, ((0, 1),)), bars, numbers, (0, 1), 1),
                         pair(Fraction(LONG, (LONG - 9) * (LONG - 1))))

    def test_arguments_are_left_alone(self):
        draw = random.Random(3)
        frame, bars = full_frame(3), drawn_bars(draw, 3, 12, 5)
        numbers = drawn_numbers(draw, 3, [corner for _, corner in bars], 5)
        kept = repr((frame, bars, numbers))
        again = eval(kept)
        self.assertEqual(scaled_bars(frame, bars, HALF), scaled_bars(*again[:2], HALF))
        self.assertEqual(least_degree(frame, bars, numbers, (0, 2), 1), least_degree(*again, (0, 2), 1))
        self.assertEqual(repr((frame, bars, numbers)), kept)
        self.assertEqual(repr(again), kept)


if __name__ == "__main__":
    unittest.main()
