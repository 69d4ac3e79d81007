"""What bars say at all numbers: which ones never say less, and which ones are consonant."""

import random
import unittest

from surefinds.closed import is_consonant, never_less, parting, quiet_numbers
from surefinds.frames import full_frame
from tests.support import (ONE, drawn_bars, drawn_frame, drawn_numbers, is_plain_fraction, pair, plain_called,
                           plain_cells, plain_possible, plain_sure, subsets, whole_of)

NIL, HALF, THIRD, QUARTER = (0, 1), (1, 2), (1, 3), (1, 4)
WEAK = (((0,), (QUARTER, None)), ((0, 1), (QUARTER, None)), ((0, 1), (None, QUARTER)), ((1,), (None, QUARTER)))
STRONG = (((0,), (HALF, None)), ((0, 1), (QUARTER, None)), ((0, 1), (None, QUARTER)), ((1,), (None, HALF)))
JOINT = (((0, 1), (HALF, HALF)),)


def sure_counts(frame, bars, cell):
    """The sure counts of all sets, as the document's words have them."""
    possible = [set(lot) for lot in plain_possible(frame, bars, cell)]
    return [min(len(set(group) - lot) for lot in possible) for group in subsets(range(frame[0]))]


def plain_never_less(frame, bars, other):
    for cell in plain_cells(frame[0], bars + other):
        ours, theirs = sure_counts(frame, bars, cell), sure_counts(frame, other, cell)
        if any(one < two for one, two in zip(ours, theirs)):
            return False
    return True


def is_quiet(frame, bars, numbers):
    """Whether some set has a sure count above 0 and no index is called."""
    return max(sure_counts(frame, bars, numbers)) > 0 and plain_called(frame, bars, numbers) == ()


def are_numbers(count, value):
    return (type(value) is tuple and len(value) == count
            and all(is_plain_fraction(each) and 0 <= whole_of(each) <= 1 for each in value))


def singles(frame, limits):
    """Bars with single limits alone."""
    return tuple((lot, tuple(limits[len(lot)] if at == index else None for index in range(frame[0])))
                 for lot in frame[1] for at in lot)


def pruned(draw, bars):
    return tuple(bar for bar in bars if draw.random() < 0.8)


def sharpened(draw, bars):
    """The bars with some of their limits halved."""
    return tuple((lot, tuple(pair(whole_of(limit) / 2) if limit and draw.random() < 0.3 else limit for limit in corner))
                 for lot, corner in bars)


class NeverLess(unittest.TestCase):

    def compare(self, frame, bars, other):
        """Whether what is told of the bars and the other ones is right; and what it is."""
        told = never_less(frame, bars, other)
        self.assertIs(told, plain_never_less(frame, bars, other))
        found = parting(frame, bars, other)
        if told:
            self.assertIsNone(found)
        else:
            self.assertEqual(len(found), 2)
            numbers, group = found
            self.assertIs(type(found), tuple)
            self.assertTrue(are_numbers(frame[0], numbers), numbers)
            self.assertIn(group, subsets(range(frame[0])))
            self.assertLess(plain_sure(frame, bars, numbers, group), plain_sure(frame, other, numbers, group))
        self.assertEqual(parting(other=other, bars=bars, frame=frame), found)
        self.assertIs(never_less(other=other, bars=bars, frame=frame), told)
        return told

    def test_by_hand(self):
        full = full_frame(2)
        self.assertTrue(self.compare(full, STRONG, WEAK))
        self.assertFalse(self.compare(full, WEAK, STRONG))
        self.assertTrue(self.compare(full, WEAK, WEAK))
        self.assertTrue(self.compare(full, WEAK, ()))
        self.assertFalse(self.compare(full, (), WEAK))
        self.assertTrue(self.compare(full, (), ()))
        self.assertFalse(self.compare(full, JOINT, WEAK))
        self.assertFalse(self.compare(full, WEAK, JOINT))

    def test_what_no_set_is_surely_falser_by(self):
        # The others bar (0,) alone, which is in (0, 1): no sure count is greater for it.
        full = full_frame(2)
        self.assertTrue(self.compare(full, (), (((0,), (None, None)),)))
        self.assertFalse(self.compare((2, ((0,), (1,))), (), (((0,), (None, None)),)))
        self.assertFalse(self.compare(full, (), (((0,), (None, None)), ((0, 1), (NIL, None)))))
        # All that has 0 in it is barred, in whatever order it is told.
        barred = (((0,), (None, None)), ((0, 1), (None, None)))
        self.assertTrue(self.compare(full, barred[::-1], barred))
        self.assertFalse(self.compare(full, barred[1:], barred))
        self.assertFalse(self.compare(full, barred, barred + (((1,), (None, NIL)),)))

    def test_no_limit_and_the_limit_1_do_the_same(self):
        full = full_frame(2)
        open_bars, shut_bars = (((0, 1), (HALF, None)),), (((0, 1), (HALF, ONE)),)
        self.assertTrue(self.compare(full, open_bars, shut_bars))
        self.assertTrue(self.compare(full, shut_bars, open_bars))
        self.assertFalse(self.compare(full, (((0, 1), (HALF, (99, 100))),), open_bars))
        self.assertFalse(self.compare(full, (), (((0, 1), (None, None)),)))

    def test_the_limit_0(self):
        full = full_frame(2)
        self.assertFalse(self.compare(full, (), (((0, 1), (NIL, NIL)),)))
        self.assertTrue(self.compare(full, (((0, 1), (NIL, None)),), (((0, 1), (NIL, NIL)),)))

    def test_sets_that_are_no_lots_bar_nothing(self):
        frame = (2, ((0, 1),))
        self.assertTrue(self.compare(frame, (), (((0,), (None, None)), ((1,), (None, HALF)))))
        self.assertTrue(self.compare(frame, JOINT, JOINT + (((0,), (None, None)),)))

    def test_drawn(self):
        draw = random.Random(1)
        found = [0, 0]
        for _ in range(300):
            count = draw.randint(1, 4)
            frame = drawn_frame(draw, count)
            bars = drawn_bars(draw, count, draw.choice((1, 3, 5, 12)), 3, 0.4)
            change = draw.choice((pruned, sharpened))
            other = change(draw, bars) if draw.random() < 0.6 else drawn_bars(draw, count, 3, 3)
            if draw.random() < 0.4:
                bars, other = other, bars
            told = self.compare(frame, bars, other)
            found[told] += 1
            for _ in range(12):
                numbers = drawn_numbers(draw, count, [corner for _, corner in bars + other], 9)
                ours, theirs = sure_counts(frame, bars, numbers), sure_counts(frame, other, numbers)
                if told:
                    self.assertTrue(all(one >= two for one, two in zip(ours, theirs)))
        self.assertGreater(min(found), 30)

    def test_five_suppositions(self):
        draw = random.Random(2)
        for _ in range(6):
            frame = drawn_frame(draw, 5)
            bars = drawn_bars(draw, 5, 30, 2, 0.4)
            self.compare(frame, bars, sharpened(draw, bars))
            self.compare(frame, sharpened(draw, bars), bars)

    def test_many_cells(self):
        frame = full_frame(4)
        bars = tuple(((0, 1, 2, 3), (pair(at, 8),) * 4) for at in range(1, 8))
        self.assertIs(never_less(frame, bars, bars[:3]), True)
        self.assertIs(never_less(frame, bars[:6], bars), False)
        numbers, group = parting(frame, bars[:6], bars)
        self.assertTrue(all(whole_of(each) <= whole_of((7, 8)) for each in numbers))
        self.assertTrue(any(whole_of(each) > whole_of((3, 4)) for each in numbers))
        self.assertEqual(group, (0, 1, 2, 3))


class Consonant(unittest.TestCase):

    def look(self, frame, bars):
        """Whether what is told of the bars is right; and what it is."""
        told = is_consonant(frame, bars)
        self.assertIs(told, not any(is_quiet(frame, bars, cell) for cell in plain_cells(frame[0], bars)))
        found = quiet_numbers(frame, bars)
        if told:
            self.assertIsNone(found)
        else:
            self.assertTrue(are_numbers(frame[0], found), found)
            self.assertTrue(is_quiet(frame, bars, found))
        self.assertEqual(quiet_numbers(bars=bars, frame=frame), found)
        self.assertIs(is_consonant(bars=bars, frame=frame), told)
        return told

    def test_by_hand(self):
        full = full_frame(2)
        self.assertTrue(self.look(full, STRONG))
        self.assertTrue(self.look(full, WEAK))
        self.assertFalse(self.look(full, JOINT))
        self.assertTrue(self.look(full, ()))
        self.assertTrue(self.look(full, JOINT + (((0,), (HALF, None)),)))
        self.assertFalse(self.look(full, JOINT + (((0,), (THIRD, None)),)))
        self.assertTrue(self.look(full, (((0,), (None, None)), ((1,), (None, None)))))

    def test_frames_without_the_set_of_all(self):
        # Of 0 and 1 one is false whatever the numbers are, but nobody knows which one.
        self.assertFalse(self.look((2, ((0,), (1,))), ()))
        self.assertTrue(self.look((2, ((0,),)), ()))
        self.assertTrue(self.look((2, ((0, 1),)), ()))
        self.assertFalse(self.look((2, ((0,), (1,))), (((0,), (HALF, None)),)))
        self.assertTrue(self.look((2, ((0,), (1,))), (((0,), (ONE, None)),)))
        self.assertFalse(self.look((3, ((0, 1), (1, 2), (2,))), (((0, 1), (NIL, NIL, None)),)))
        self.assertTrue(self.look((3, ((0, 1), (1,), (1, 2))), (((0, 1), (None, None, None)),)))

    def test_sets_that_are_no_lots_bar_nothing(self):
        self.assertTrue(self.look((2, ((0,), (0, 1))), (((0, 1), (HALF, None)), ((1,), (None, NIL)))))
        self.assertFalse(self.look((2, ((0,), (0, 1), (1,))), (((0, 1), (HALF, None)), ((1,), (None, NIL)))))

    def test_single_limits(self):
        limits = (None, HALF, QUARTER, (1, 6), (1, 8))
        for count in range(1, 5):
            self.assertTrue(self.look(full_frame(count), singles(full_frame(count), limits)))
        self.assertFalse(self.look(full_frame(3), singles(full_frame(3), (None, HALF, THIRD, HALF))))

    def test_drawn(self):
        draw = random.Random(3)
        found = [0, 0]
        for _ in range(200):
            count = draw.randint(1, 4)
            frame = drawn_frame(draw, count)
            if draw.random() < 0.5:
                bars = drawn_bars(draw, count, draw.choice((0, 1, 4, 12)), 3, 0.4)
            else:
                limits = [pair(draw.randint(0, 3), 4) for _ in range(count + 1)]
                bars = singles(frame, limits)
                bars = bars if draw.random() < 0.5 else pruned(draw, bars)
            told = self.look(frame, bars)
            found[told] += 1
            for _ in range(10):
                numbers = drawn_numbers(draw, count, [corner for _, corner in bars], 9)
                self.assertFalse(told and is_quiet(frame, bars, numbers))
        self.assertGreater(min(found), 50)

    def test_five_suppositions(self):
        draw = random.Random(4)
        for _ in range(6):
            self.look(drawn_frame(draw, 5), drawn_bars(draw, 5, 40, 2, 0.4))

    def test_arguments_are_left_alone(self):
        draw = random.Random(5)
        frame, bars, other = full_frame(3), drawn_bars(draw, 3, 8, 4), drawn_bars(draw, 3, 8, 4)
        kept = repr((frame, bars, other))
        again = eval(kept)
        self.assertEqual(parting(frame, bars, other), parting(*again))
        self.assertEqual(never_less(frame, bars, other), never_less(*again))
        self.assertEqual(quiet_numbers(frame, bars), quiet_numbers(*again[:2]))
        self.assertEqual(is_consonant(frame, bars), is_consonant(*again[:2]))
        self.assertEqual(repr((frame, bars, other)), kept)
        self.assertEqual(repr(again), kept)


if __name__ == "__main__":
    unittest.main()
