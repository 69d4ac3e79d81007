"""What is refused: by which error, with which value, and what is checked first."""

import unittest

from surefinds.books import is_book, risk, riskiest, says, wrong_corners
from surefinds.chances import (apart_chance, apart_mean, greatest_chance, greatest_mean, masses, prices, worth_masses,
                               worth_prices)
from surefinds.errors import (InvalidBook, InvalidCorners, InvalidCount, InvalidFrame, InvalidNumbers, InvalidSet,
                              InvalidTies, InvalidWorths, TooMany)
from surefinds.frames import full_frame, implied_frame
from tests.support import NOT_COUNTS, NOT_FRACTIONS, NOT_NUMBERS, NOT_WHOLE, ODD_VALUES, ONE, pair

NIL, HALF, THIRD = (0, 1), (1, 2), (1, 3)
OF_CORNERS = (greatest_chance, masses, prices, apart_chance)
OF_WORTHS = (greatest_mean, worth_masses, worth_prices, apart_mean)
NOT_TUPLES = tuple(each for each in ODD_VALUES if type(each) is not tuple) + (3, 0, "((1, 2),)", [((1, 2),)])

# Of two suppositions.
NOT_CORNERS = (
    [HALF, HALF], (), (HALF,), (HALF, HALF, HALF), (None, None, None), HALF, (1, 2), "ab", None, True, 7, {}, set(),
    (HALF, [1, 2]), ([1, 2], HALF)
) + tuple((HALF, each) for each in NOT_NUMBERS) + tuple((each, None) for each in NOT_NUMBERS)
NOT_WORTHS = (
    (), ((HALF, None),), ((HALF, None), ONE, ONE), [(HALF, None), ONE], (ONE, (HALF, None)), (HALF, None), None, 5, "ab",
    ((HALF, None), None), ((HALF, None), (-1, 2)), ((HALF, None), (-1, 1))
) + tuple((each, ONE) for each in NOT_CORNERS) + tuple(((None, HALF), each) for each in NOT_FRACTIONS)
NOT_SETS = tuple(each for each in ODD_VALUES if type(each) is not tuple) + (
    (), (2,), (-1,), (0, 2), (1, 0), (0, 0), (True,), (False, 1), (0, True), (None,), ("0",), [0], [0, 1], {0}, ((0,),),
    ([0],), 0, 1, "01", ((0, 1),), (10 ** 399,))
NOT_SAYINGS = (
    (), ((0,),), ((0,), 1), [(0,), 1, (HALF, None)], ((0,), 1, (HALF, None), 1), (1, (0,), (HALF, None)), None, 3, "abc",
    ((0,), 0, (HALF, None)), ((0,), 2, (HALF, None)), ((0, 1), 3, (HALF, None)), ((0, 1), -1, (HALF, None))
) + tuple((each, 1, (HALF, None)) for each in NOT_SETS) + tuple(
    ((0, 1), each, (HALF, None)) for each in NOT_WHOLE) + tuple(((0, 1), 1, each) for each in NOT_CORNERS)
NOT_TIES = ((), ((0,),), ((0,), 1, 1), [(0,), 1], ((0,), 0), ((0, 1), 0), ((0, 1), 1), ((0,), 2), ((0,), -1), (0, 1),
            ((0,), None), ((0,), (1,)), ((0,), True), ((1,), False), None, 3, "ab") + tuple((each, 1) for each in NOT_SETS)
NOT_FRAMES = ODD_VALUES + (
    (), (2,), (2, ()), (2, ((0,),), 1), [2, ((0,),)], (2, [(0,)]), (2, ([0],)), (0, ((0,),)), (6, ((0,),)),
    (True, ((0,),)), (None, ((0,),)), ("2", ((0,),)), (((0,),), 2), (2, ((0,), (0,))), (2, ((1,), (0,))), (2, (0, 1)),
    (2, ((0, 1), (0,))), (2, ((), (0,))), (2, ((0,), ())), (2, (0,)), (1, ((0,), (1,))), (1, ((1,),)), (2, None), (2, 1)
) + tuple((2, (each,)) for each in NOT_SETS) + tuple((each, ((0,),)) for each in NOT_COUNTS)


class Refusals(unittest.TestCase):

    def refuse(self, error, value, ask, /, *told, **named):
        """Whether asking raises just this error, which tells just this value."""
        with self.assertRaises(error) as caught:
            ask(*told, **named)
        self.assertIs(type(caught.exception), error)
        kept = vars(caught.exception)
        self.assertEqual(len(kept), 1)
        found = list(kept.values())[0]
        if type(value) is int and type(found) is int:
            self.assertEqual(found, value)
        else:
            self.assertIs(found, value)

    def refuse_row(self, error, ask, right, wrongs, most):
        """What is refused of a tuple of none to so many elements, each like the right one."""
        for value in NOT_TUPLES:
            self.refuse(error, None, ask, value)
        self.refuse(error, None, ask, [right])
        for wrong in wrongs:
            self.refuse(error, 0, ask, (wrong,))
            self.refuse(error, 1, ask, (right, wrong, wrong, right))
        for at in range(most):
            self.refuse(error, at, ask, (right,) * at + (wrongs[0],) + (right,) * (most - 1 - at))
            self.refuse(error, at, ask, (right,) * at + (wrongs[0],) * (most + 20))
        ask((right,) * most)
        self.refuse(error, most, ask, (right,) * (most + 1))
        self.refuse(error, most, ask, (right,) * (most + 100))
        self.refuse(error, most, ask, (right,) * most + (wrongs[0],))


class Counts(Refusals):

    def test_count(self):
        for value in NOT_COUNTS:
            for ask in OF_CORNERS + OF_WORTHS + (implied_frame, is_book):
                self.refuse(InvalidCount, value, ask, value, ())
            self.refuse(InvalidCount, value, full_frame, value)
            self.refuse(InvalidCount, value, says, value, (), ())

    def test_count_is_checked_first(self):
        for value in (0, True, None, Refusals):
            for ask in OF_CORNERS + OF_WORTHS + (implied_frame, is_book):
                self.refuse(InvalidCount, value, ask, value, None)
            self.refuse(InvalidCount, value, says, value, None, None)
            self.refuse(InvalidCount, value, says, numbers=None, book=None, count=value)

    def test_by_name(self):
        for ask in OF_CORNERS:
            self.refuse(InvalidCount, 6, ask, corners=None, count=6)
            self.refuse(InvalidCorners, None, ask, corners=None, count=5)
        for ask in OF_WORTHS:
            self.refuse(InvalidCount, 6, ask, worths=None, count=6)
            self.refuse(InvalidWorths, None, ask, worths=None, count=5)
        self.refuse(InvalidCount, 0, full_frame, count=0)
        self.refuse(InvalidTies, None, implied_frame, ties=None, count=2)
        self.refuse(InvalidCount, 0, is_book, value=(), count=0)


class Corners(Refusals):

    def test_corners(self):
        for ask in OF_CORNERS:
            self.refuse_row(InvalidCorners, lambda each: ask(2, each), (HALF, None), NOT_CORNERS, 60)

    def test_the_first_wrong_one_is_told(self):
        for ask in OF_CORNERS:
            self.refuse(InvalidCorners, 1, ask, 1, ((HALF,), (None, None), (2, 4)))
            self.refuse(InvalidCorners, 2, ask, 3, ((None,) * 3, (NIL, ONE, None), (HALF,), None))

    def test_a_pair_is_no_corner(self):
        for ask in OF_CORNERS:
            self.refuse(InvalidCorners, 0, ask, 2, HALF)
            self.refuse(InvalidCorners, 0, ask, 1, (HALF,))

    def test_worths(self):
        for ask in OF_WORTHS:
            self.refuse_row(InvalidWorths, lambda each: ask(2, each), ((HALF, None), (3, 2)), NOT_WORTHS, 60)

    def test_sixty_like_ones(self):
        self.assertEqual(greatest_chance(2, ((HALF, HALF),) * 60), HALF)
        self.assertEqual(apart_chance(2, ((HALF, HALF),) * 60), (1, 4))
        self.assertEqual(greatest_mean(2, (((HALF, HALF), HALF),) * 60), (1, 4))
        self.assertEqual(apart_mean(2, (((HALF, HALF), HALF),) * 60), (1, 8))
        self.refuse(InvalidCorners, 60, greatest_chance, 2, ((HALF, HALF),) * 61)
        self.refuse(InvalidWorths, 60, greatest_mean, 2, (((HALF, HALF), HALF),) * 61)


def lattice(*many):
    """Corners with so many unlike limits below 1 for each supposition, 0 among them."""
    return tuple(tuple(pair(at, bottom) if at < bottom else None for bottom in many) for at in range(max(many)))


class Cells(Refusals):

    def test_up_to_20000_cells(self):
        corners = lattice(24, 31, 24)
        self.assertEqual(25 * 32 * 25, 20000)
        told = apart_chance(3, corners)
        self.assertTrue(0 < told[0] < told[1])
        self.assertEqual(apart_mean(3, tuple((corner, ONE) for corner in corners)), told)

    def test_above_20000_cells(self):
        for many, cells in (((7, 40, 60), 8 * 41 * 61), ((25, 31, 24), 26 * 32 * 25), ((60, 60, 60, 60, 60), 61 ** 5)):
            corners = lattice(*many)
            worths = tuple((corner, NIL) for corner in corners)
            self.refuse(TooMany, cells, apart_chance, len(many), corners)
            self.refuse(TooMany, cells, apart_mean, len(many), worths)

    def test_no_limit_and_the_limit_1_are_not_counted(self):
        corners = lattice(24, 31, 24) + ((ONE, ONE, ONE), (ONE, (1, 31), None))
        self.assertEqual(apart_chance(3, corners), ONE)

    def test_like_limits_are_counted_once(self):
        corners = lattice(24, 31, 24) + ((HALF, NIL, HALF), (THIRD, NIL, NIL))
        self.assertTrue(apart_chance(3, corners))

    def test_the_limit_0_is_counted(self):
        above = lattice(25, 31, 24)
        self.assertEqual(above[0], (NIL, NIL, NIL))
        self.refuse(TooMany, 26 * 32 * 25, apart_chance, 3, above)
        self.assertTrue(apart_chance(3, ((None, NIL, NIL),) + above[1:]))
        self.assertTrue(apart_mean(3, tuple((corner, ONE) for corner in above[1:])))

    def test_corners_within_others_are_counted(self):
        above = ((None, None, None),) + lattice(25, 31, 24)
        self.refuse(TooMany, 26 * 32 * 25, apart_chance, 3, above)

    def test_whatever_would_be_told(self):
        corners = lattice(7, 40, 59)
        self.assertTrue(apart_chance(3, corners))
        self.refuse(TooMany, 8 * 41 * 61, apart_chance, 3, lattice(7, 40, 60)[:59] + ((None, None, (59, 60)),))
        nothing = tuple((corner, NIL) for corner in lattice(7, 40, 60))
        self.refuse(TooMany, 8 * 41 * 61, apart_mean, 3, nothing)

    def test_it_comes_last(self):
        corners = lattice(60, 60, 60)
        self.refuse(InvalidCount, 0, apart_chance, 0, corners)
        self.refuse(InvalidCorners, 0, apart_chance, 4, corners)
        self.refuse(InvalidCorners, 60, apart_chance, 3, corners + ((None, None, None),))
        self.refuse(InvalidWorths, 59, apart_mean, 3, tuple((corner, ONE) for corner in corners[:59]) + (None,))

    def test_other_functions_know_no_cells(self):
        corners = lattice(60, 60, 60)
        self.assertTrue(greatest_chance(3, corners))
        self.assertEqual(len(masses(3, corners)), 60)


class Frames(Refusals):

    def test_ties(self):
        self.refuse_row(InvalidTies, lambda each: implied_frame(2, each), ((0,), 1), NOT_TIES, 12)

    def test_frame(self):
        for value in NOT_FRAMES:
            self.refuse(InvalidFrame, value, risk, value, ())
            self.refuse(InvalidFrame, value, riskiest, value, ())
            self.refuse(InvalidFrame, value, wrong_corners, value, (), (0,))

    def test_frame_is_checked_first(self):
        for value in (None, (2, ()), [], (2, ((1,), (0,)))):
            self.refuse(InvalidFrame, value, risk, value, None)
            self.refuse(InvalidFrame, value, riskiest, book=None, frame=value)
            self.refuse(InvalidFrame, value, wrong_corners, value, None, None)


class Books(Refusals):

    RIGHT = ((0, 1), 2, (HALF, None))

    def test_book(self):
        frame = full_frame(2)
        asks = (lambda each: says(2, each, (HALF, HALF)), lambda each: wrong_corners(frame, each, (0,)),
                lambda each: risk(frame, each), lambda each: riskiest(frame, each))
        for ask in asks:
            self.refuse_row(InvalidBook, ask, self.RIGHT, NOT_SAYINGS, 60)

    def test_a_book_for_another_count(self):
        for count, at in ((1, 0), (3, 0)):
            self.refuse(InvalidBook, at, risk, full_frame(count), (self.RIGHT,))
            self.refuse(InvalidBook, at, says, count, (self.RIGHT,), (HALF,) * count)

    def test_numbers(self):
        for value in NOT_TUPLES + ((), (HALF,), (HALF, HALF, HALF)):
            self.refuse(InvalidNumbers, None, says, 2, (self.RIGHT,), value)
        for wrong in NOT_NUMBERS + (None,):
            self.refuse(InvalidNumbers, 0, says, 2, (), (wrong, HALF))
            self.refuse(InvalidNumbers, 0, says, 2, (), (wrong, wrong))
            self.refuse(InvalidNumbers, 1, says, 2, (), (HALF, wrong))
            self.refuse(InvalidNumbers, 4, says, 5, (), (HALF, NIL, ONE, THIRD, wrong))
        self.refuse(InvalidNumbers, None, says, 2, (), [HALF, HALF])

    def test_book_is_checked_before_numbers(self):
        self.refuse(InvalidBook, None, says, 2, None, None)
        self.refuse(InvalidBook, 0, says, numbers=(None, None), book=(None,), count=2)

    def test_lot(self):
        frame = implied_frame(2, (((0,), 1),))
        for value in NOT_SETS + ((0,),):
            self.refuse(InvalidSet, value, wrong_corners, frame, (self.RIGHT,), value)
            self.refuse(InvalidSet, value, wrong_corners, lot=value, book=(), frame=frame)
        for value in ((0, 1), (1,)):
            wrong_corners(frame, (), value)

    def test_book_is_checked_before_lot(self):
        frame = full_frame(2)
        self.refuse(InvalidBook, None, wrong_corners, frame, [], None)
        self.refuse(InvalidBook, 1, wrong_corners, frame, (self.RIGHT, None), (5,))
