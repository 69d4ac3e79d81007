"""Frames: which values are some, the full one, and those that ties imply."""

import random
import unittest

from surefinds.errors import InvalidTies
from surefinds.frames import full_frame, implied_frame, is_frame
from tests.support import subsets
from tests.test_refusals import NOT_FRAMES


class Frames(unittest.TestCase):

    def test_is_frame_of_frames(self):
        frames = [(1, ((0,),)), (2, ((0,), (1,))), (5, ((0, 1, 2, 3, 4),)), (3, ((0,), (0, 1), (0, 1, 2), (0, 2), (1,)))]
        frames += [full_frame(count) for count in range(1, 6)]
        for frame in frames:
            self.assertIs(is_frame(frame), True)
            self.assertIs(is_frame(value=frame), True)

    def test_is_frame_of_anything_else(self):
        for value in NOT_FRAMES:
            self.assertIs(is_frame(value), False)

    def test_lots_ascend(self):
        draw = random.Random(1)
        for _ in range(100):
            count = draw.randint(2, 5)
            lots = draw.sample(subsets(range(count)), draw.randint(2, 3))
            self.assertIs(is_frame((count, tuple(lots))), lots == sorted(lots))

    def test_full_frame(self):
        self.assertEqual(full_frame(1), (1, ((0,),)))
        self.assertEqual(full_frame(3), (3, ((0,), (0, 1), (0, 1, 2), (0, 2), (1,), (1, 2), (2,))))
        for count in range(1, 6):
            self.assertEqual(full_frame(count=count), (count, tuple(subsets(range(count)))))
            self.assertEqual(len(full_frame(count)[1]), 2 ** count - 1)
            self.assertEqual(implied_frame(count, ()), full_frame(count))

    def test_implied_frame_by_hand(self):
        self.assertEqual(implied_frame(2, (((0,), 1),)), (2, ((0, 1), (1,))))
        self.assertEqual(implied_frame(2, (((0,), 1), ((1,), 0))), (2, ((0, 1),)))
        self.assertEqual(implied_frame(3, (((0, 1), 2),))[1], ((0,), (0, 1, 2), (0, 2), (1,), (1, 2), (2,)))
        chain = (((0,), 1), ((1,), 2))
        self.assertEqual(implied_frame(3, chain)[1], ((0, 1, 2), (1, 2), (2,)))

    def test_implied_frame_of_drawn_ties(self):
        draw = random.Random(2)
        for _ in range(200):
            count = draw.randint(2, 5)
            ties = []
            for _ in range(draw.randint(0, 12)):
                index = draw.randrange(count)
                ties.append((draw.choice(subsets([at for at in range(count) if at != index])), index))
            lots = tuple(lot for lot in subsets(range(count))
                         if all(index in lot or not set(group) <= set(lot) for group, index in ties))
            told = implied_frame(ties=tuple(ties), count=count)
            self.assertEqual(told, (count, lots))
            self.assertTrue(is_frame(told))
            self.assertEqual(implied_frame(count, tuple(ties)), told)

    def test_twelve_ties_and_thirteen(self):
        ties = tuple(((at % 4,), 4) for at in range(12))
        lots = implied_frame(5, ties)[1]
        self.assertEqual(lots, tuple(lot for lot in subsets(range(5)) if 4 in lot))
        with self.assertRaises(InvalidTies) as caught:
            implied_frame(5, ties + (((0,), 1),))
        self.assertEqual(caught.exception.index, 12)
        self.assertEqual(implied_frame(5, ties[:11] + (((4,), 0),))[1], tuple(lot for lot in lots if 0 in lot))
