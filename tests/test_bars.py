"""Bars: those of books, their risk, what numbers bar, and what is surely false."""

import random
import unittest

from surefinds.bars import are_bars, bars_of, bars_risk, called, is_coherent, possible_lots, sure_count
from surefinds.books import risk, says, wrong_corners
from surefinds.chances import greatest_chance
from surefinds.errors import InvalidCount, TooMany
from surefinds.frames import full_frame, implied_frame
from tests.support import (ONE, drawn_bars, drawn_book, drawn_corner, drawn_frame, drawn_numbers, pair, plain_called,
                           plain_cells, plain_possible, plain_sure, subsets, whole_of)
from tests.test_bar_refusals import NOT_BARS
from tests.test_refusals import NOT_COUNTS, NOT_TUPLES

NIL, HALF, THIRD, QUARTER, TENTH = (0, 1), (1, 2), (1, 3), (1, 4), (1, 10)
WEAK = (((0,), (QUARTER, None)), ((0, 1), (QUARTER, None)), ((0, 1), (None, QUARTER)), ((1,), (None, QUARTER)))


def lies_within(one, other):
    """Whether no limit of the other corner is below that of the one in its place, None being taken for 1."""
    return all(whole_of(low or ONE) <= whole_of(high or ONE) for low, high in zip(one, other))


def plain_bars_of(frame, book):
    found = []
    for lot in frame[1]:
        corners = wrong_corners(frame, book, lot)
        for at, corner in enumerate(corners):
            wider = [lies_within(corner, other) and not lies_within(other, corner) for other in corners]
            like = [lies_within(corner, other) and lies_within(other, corner) for other in corners[:at]]
            if not any(wider) and not any(like):
                found.append((lot, corner))
    return tuple(found)


def crossing_book(many):
    """Sayings that are wrong for all lots: of lots with 0 and 1 all corners stay, of any other lot one stays."""
    return tuple(((0, 1, 2, 3, 4), 5, (pair(at, 100), pair(60 - at, 100), None, None, None)) for at in range(many))


class AreBars(unittest.TestCase):

    RIGHT = ((0, 1), (HALF, None))

    def test_bars(self):
        draw = random.Random(1)
        for count in range(1, 6):
            for many in (0, 1, 7, 60):
                self.assertIs(are_bars(count, drawn_bars(draw, count, many, 5)), True)
        self.assertIs(are_bars(value=(self.RIGHT,) * 60, count=2), True)
        self.assertIs(are_bars(2, (((0,), (None, None)), ((0,), (ONE, None)), ((1,), (None, NIL)))), True)

    def test_at_most_60_of_one_set_and_240_in_all(self):
        self.assertIs(are_bars(2, (self.RIGHT,) * 61), False)
        rest = (((0,), (HALF, None)),) * 60 + (((1,), (None, HALF)),) * 60
        self.assertIs(are_bars(2, (self.RIGHT,) * 60 + rest), True)
        self.assertIs(are_bars(2, (self.RIGHT,) * 60 + rest + (self.RIGHT,)), False)
        lots = subsets(range(3))[:4]
        bars = tuple((lot, (None, None, None)) for lot in lots * 60)
        self.assertIs(are_bars(3, bars), True)
        self.assertIs(are_bars(3, bars + (((2,), (None, None, None)),)), False)
        self.assertIs(are_bars(3, bars[:-1] + (((2,), (None, None, None)),)), True)

    def test_anything_else(self):
        for value in NOT_TUPLES + ([self.RIGHT], self.RIGHT):
            self.assertIs(are_bars(2, value), False)
        for wrong in NOT_BARS:
            self.assertIs(are_bars(2, (wrong,)), False)
            self.assertIs(are_bars(2, (self.RIGHT, wrong)), False)
            self.assertIs(are_bars(2, (wrong, self.RIGHT)), False)

    def test_for_another_count(self):
        for count in (1, 3, 4, 5):
            self.assertIs(are_bars(count, (self.RIGHT,)), False)
        for count in NOT_COUNTS:
            with self.assertRaises(InvalidCount) as caught:
                are_bars(count, ())
            self.assertIs(caught.exception.given, count)


class BarsOf(unittest.TestCase):

    def test_by_hand(self):
        book = (((0,), 1, (TENTH, QUARTER, HALF)), ((0, 1), 1, (HALF, None, TENTH)),
                ((0, 1, 2), 3, (None, THIRD, THIRD)))
        self.assertEqual(bars_of((3, ((0,), (0, 1), (0, 1, 2), (1,), (1, 2))), book), (
            ((0,), (None, None, None)), ((0, 1), (HALF, None, None)), ((0, 1), (None, THIRD, None)),
            ((0, 1, 2), (TENTH, QUARTER, HALF)), ((0, 1, 2), (HALF, None, TENTH)), ((0, 1, 2), (None, THIRD, THIRD)),
            ((1,), (None, THIRD, None)), ((1, 2), (None, THIRD, THIRD))))
        self.assertEqual(bars_of(full_frame(3), ()), ())

    def test_of_like_corners_the_first_stays(self):
        frame = (2, ((0, 1),))
        for one, other in (((HALF, ONE), (HALF, None)), ((HALF, None), (HALF, ONE))):
            book = (((0, 1), 2, one), ((0, 1), 1, (QUARTER, HALF)), ((0, 1), 2, other), ((0, 1), 1, one))
            self.assertEqual(bars_of(frame, book), (((0, 1), one),))
        # Cut to (0,), all of them are alike; the limit 1 of supposition 0 stays where it comes first.
        book = (((0,), 1, (ONE, QUARTER)), ((0,), 1, (None, HALF)), ((0,), 1, (ONE, NIL)))
        self.assertEqual(bars_of((2, ((0,),)), book), (((0,), (ONE, None)),))
        self.assertEqual(bars_of((2, ((0, 1),)), book), (((0, 1), (None, HALF)),))

    def test_a_saying_that_binds_others_only_bars_always(self):
        book = (((0,), 1, (None, TENTH)), ((0,), 1, (HALF, None)))
        self.assertEqual(bars_of(full_frame(2), book), (
            ((0,), (None, None)), ((0, 1), (None, TENTH)), ((0, 1), (HALF, None))))
        self.assertEqual(bars_of(full_frame(2), book[::-1])[1:], (((0, 1), (HALF, None)), ((0, 1), (None, TENTH))))

    def test_what_stays_is_told_as_cut_only(self):
        # Cut to (0, 1) both are told, as each has a lesser limit; cut to (0,) the second one lies within the first.
        book = (((0, 1), 2, (HALF, TENTH, NIL)), ((0, 1), 2, (QUARTER, HALF, ONE)))
        self.assertEqual(bars_of((3, ((0,), (0, 1))), book), (
            ((0,), (HALF, None, None)), ((0, 1), (HALF, TENTH, None)), ((0, 1), (QUARTER, HALF, None))))

    def test_drawn(self):
        draw = random.Random(2)
        for _ in range(150):
            count = draw.randint(1, 4)
            book, frame = drawn_book(draw, count, draw.choice((0, 1, 3, 8, 15))), drawn_frame(draw, count)
            bars = bars_of(frame, book)
            self.assertEqual(bars, plain_bars_of(frame, book))
            self.assertEqual(bars_of(book=book, frame=frame), bars)
            self.assertIs(are_bars(count, bars), True)

    def test_the_risk_of_the_book_and_of_its_bars_are_one(self):
        draw = random.Random(3)
        for _ in range(120):
            count = draw.randint(1, 5)
            book, frame = drawn_book(draw, count, draw.choice((0, 1, 3, 7))), drawn_frame(draw, count)
            self.assertEqual(bars_risk(frame, bars_of(frame, book)), risk(frame, book))

    def test_a_book_says_at_most_what_its_bars_say(self):
        draw = random.Random(4)
        said = 0
        for _ in range(300):
            count = draw.randint(1, 4)
            book, frame = drawn_book(draw, count, draw.randint(1, 6)), drawn_frame(draw, count)
            bars = bars_of(frame, book)
            numbers = drawn_numbers(draw, count, [corner for _, _, corner in book], 9)
            for at in says(count, book, numbers):
                self.assertLessEqual(book[at][1], sure_count(frame, bars, numbers, book[at][0]))
                said += 1
            # No lot is barred but by a saying that is wrong for it at these numbers of the lot.
            for lot in frame[1]:
                cut = tuple(number if at in lot else NIL for at, number in enumerate(numbers))
                spoken = any(book[at][1] > len(set(book[at][0]) - set(lot)) for at in says(count, book, cut))
                self.assertEqual(lot not in possible_lots(frame, bars, numbers), spoken)
        self.assertGreater(said, 200)

    def test_240_pairs(self):
        lots = ((0, 1), (0, 1, 2), (0, 1, 3), (0, 1, 4))
        bars = bars_of((5, lots), crossing_book(60))
        self.assertEqual(len(bars), 240)
        self.assertEqual(bars, plain_bars_of((5, lots), crossing_book(60)))
        self.assertIs(are_bars(5, bars), True)
        more = ((0,), (0, 1), (0, 1, 2), (0, 1, 3), (0, 1, 4), (1,), (2,), (3,))
        self.assertEqual(len(bars_of((5, more), crossing_book(59))), 240)
        again = crossing_book(59) + crossing_book(1)
        self.assertEqual(bars_of((5, more), again), bars_of((5, more), crossing_book(59)))

    def test_above_240_pairs(self):
        lots = ((0, 1), (0, 1, 2), (0, 1, 3), (0, 1, 4))
        more = ((0,),) + lots + ((1,), (2,), (3,), (3, 4))
        for frame, many, told in (((5, lots + ((2,),)), 60, 241), ((5, more), 59, 241),
                                  (full_frame(5), 60, 503), (full_frame(5), 28, 247)):
            with self.assertRaises(TooMany) as caught:
                bars_of(frame, crossing_book(many))
            self.assertIs(type(caught.exception), TooMany)
            self.assertEqual(caught.exception.given, told)
        self.assertEqual(len(bars_of(full_frame(5), crossing_book(27))), 27 * 8 + 23)


class BarsRisk(unittest.TestCase):

    def test_by_hand(self):
        bars = (((0,), (QUARTER, None)), ((0, 1), (THIRD, None)), ((0, 1), (None, THIRD)), ((1,), (None, ONE)))
        self.assertEqual(bars_risk((2, ((0,),)), bars), QUARTER)
        self.assertEqual(bars_risk((2, ((0,), (0, 1))), bars), (2, 3))
        self.assertEqual(bars_risk(full_frame(2), bars), ONE)
        self.assertEqual(bars_risk(bars=bars[:3], frame=full_frame(2)), (2, 3))

    def test_no_corners_for_the_lots(self):
        for frame in (full_frame(1), full_frame(5), (3, ((0, 2),))):
            self.assertEqual(bars_risk(frame, ()), NIL)
        self.assertEqual(bars_risk((2, ((0,), (1,))), (((0, 1), (None, None)),)), NIL)
        self.assertEqual(bars_risk(full_frame(2), (((0, 1), (NIL, None)),)), NIL)

    def test_drawn(self):
        draw = random.Random(5)
        for _ in range(80):
            count = draw.randint(1, 5)
            frame, bars = drawn_frame(draw, count), drawn_bars(draw, count, draw.choice((0, 2, 9, 25)), 30)
            chances = [whole_of(greatest_chance(count, tuple(corner for own, corner in bars if own == lot)))
                       for lot in frame[1]]
            self.assertEqual(bars_risk(frame, bars), pair(max(chances)))


class Said(unittest.TestCase):

    def test_numbers_just_at_limits(self):
        frame = full_frame(2)
        self.assertEqual(possible_lots(frame, WEAK, (QUARTER, HALF)), ((), (1,)))
        self.assertEqual(possible_lots(frame, WEAK, ((251, 1000), HALF)), ((), (0,), (0, 1), (1,)))
        self.assertEqual(possible_lots(frame, WEAK, (QUARTER, QUARTER)), ((),))
        self.assertEqual(possible_lots(frame, WEAK, (NIL, ONE)), ((), (1,)))
        joint = (((0, 1), (THIRD, HALF)),)
        self.assertEqual(possible_lots(frame, joint, (THIRD, HALF)), ((), (0,), (1,)))
        self.assertEqual(possible_lots(frame, joint, (THIRD, (2, 3))), ((), (0,), (0, 1), (1,)))
        self.assertEqual(possible_lots(frame, joint, (HALF, HALF)), ((), (0,), (0, 1), (1,)))

    def test_sets_that_are_no_lots_bar_nothing(self):
        frame = implied_frame(2, (((0,), 1),))
        bars = (((0,), (None, None)), ((1,), (None, QUARTER)))
        self.assertEqual(possible_lots(frame, bars, (NIL, HALF)), ((), (0, 1), (1,)))
        self.assertEqual(possible_lots(frame, bars, (NIL, NIL)), ((), (0, 1)))
        self.assertEqual(sure_count(frame, bars, (NIL, NIL), (0, 1)), 0)
        self.assertEqual(called(frame, bars, (NIL, NIL)), ())

    def test_what_is_in_no_lot_is_surely_false(self):
        frame = (3, ((0,), (1,)))
        numbers = (ONE, ONE, ONE)
        self.assertEqual(called(frame, (), numbers), (2,))
        self.assertEqual(sure_count(frame, (), numbers, (0, 1)), 1)
        self.assertEqual(sure_count(frame, (), numbers, (0, 1, 2)), 2)
        self.assertEqual(sure_count(frame, (), numbers, (2,)), 1)
        self.assertEqual(sure_count(frame, (), numbers, (0,)), 0)

    def test_the_group_need_not_be_a_lot(self):
        frame = (2, ((0,),))
        bars = (((0,), (HALF, None)),)
        self.assertEqual(sure_count(frame, bars, (HALF, ONE), (0, 1)), 2)
        self.assertEqual(sure_count(frame, bars, (ONE, ONE), (0, 1)), 1)
        self.assertEqual(sure_count(frame, bars, (ONE, ONE), (1,)), 1)

    def test_more_may_be_sure_of_a_group_than_is_called(self):
        frame = full_frame(3)
        bars = tuple((lot, tuple(HALF if at in lot else None for at in range(3)))
                     for lot in subsets(range(3)) if len(lot) > 1)
        numbers = (THIRD, THIRD, THIRD)
        self.assertEqual(sure_count(frame, bars, numbers, (0, 1, 2)), 2)
        self.assertEqual([sure_count(frame, bars, numbers, lot) for lot in ((0, 1), (1, 2), (0,))], [1, 1, 0])
        self.assertEqual(called(frame, bars, numbers), ())

    def test_drawn(self):
        draw = random.Random(6)
        found = {}
        for _ in range(250):
            count = draw.randint(1, 5)
            frame = drawn_frame(draw, count)
            bars = drawn_bars(draw, count, draw.choice((0, 3, 10, 40)), draw.choice((3, 12)))
            numbers = drawn_numbers(draw, count, [corner for _, corner in bars], 6)
            told = possible_lots(frame, bars, numbers)
            self.assertEqual(told, tuple(plain_possible(frame, bars, numbers)))
            self.assertEqual(possible_lots(numbers=numbers, bars=bars, frame=frame), told)
            for group in subsets(range(count)):
                sure = plain_sure(frame, bars, numbers, group)
                self.assertEqual(sure_count(frame, bars, numbers, group), sure)
                found[sure] = True
            self.assertEqual(sure_count(group=group, numbers=numbers, bars=bars, frame=frame), sure)
            self.assertEqual(called(frame, bars, numbers), plain_called(frame, bars, numbers))
            self.assertEqual(called(numbers=numbers, bars=bars, frame=frame), plain_called(frame, bars, numbers))
        self.assertEqual(sorted(found), [0, 1, 2, 3, 4])
        bars = tuple((lot, (None,) * 5) for lot in subsets(range(5)))
        self.assertEqual(sure_count(full_frame(5), bars, (ONE,) * 5, (0, 1, 2, 3, 4)), 5)
        self.assertEqual(called(full_frame(5), bars, (ONE,) * 5), (0, 1, 2, 3, 4))

    def test_results_are_plain_and_arguments_are_left_alone(self):
        draw = random.Random(7)
        frame, bars, book = full_frame(4), drawn_bars(draw, 4, 20, 9), drawn_book(draw, 4, 9)
        numbers = drawn_numbers(draw, 4, [corner for _, corner in bars], 6)
        kept = repr((frame, bars, numbers, book))
        again = eval(kept)
        self.assertEqual(possible_lots(frame, bars, numbers), possible_lots(*again[:3]))
        self.assertEqual(called(frame, bars, numbers), called(*again[:3]))
        self.assertEqual(bars_of(frame, book), bars_of(again[0], again[3]))
        self.assertEqual(bars_risk(frame, bars), bars_risk(*again[:2]))
        self.assertEqual(is_coherent(frame, bars), is_coherent(*again[:2]))
        self.assertIs(type(possible_lots(frame, bars, numbers)), tuple)
        self.assertIs(type(called(frame, bars, numbers)), tuple)
        self.assertIs(type(sure_count(frame, bars, numbers, (0,))), int)
        self.assertIs(type(bars_of(frame, book)), tuple)
        self.assertEqual(repr((frame, bars, numbers, book)), kept)
        self.assertEqual(repr(again), kept)


def coherent_at_cells(frame, bars):
    """Whether at each cell, wherever a lot is barred, all lots that it lies in are barred, too."""
    for cell in plain_cells(frame[0], bars):
        possible = plain_possible(frame, bars, cell)
        for lot in frame[1]:
            if lot not in possible and any(set(lot) <= set(other) for other in possible):
                return False
    return True


def coherent_by_corners(frame, bars):
    for lot in frame[1]:
        for other in frame[1]:
            if set(lot) <= set(other):
                outer = [corner for own, corner in bars if own == other]
                if not all(any(lies_within(corner, each) for each in outer) for own, corner in bars if own == lot):
                    return False
    return True


def coherent_at_highest(frame, bars):
    """Whether the highest numbers within each corner of a lot bar all lots that the lot lies in."""
    for lot, corner in bars:
        possible = plain_possible(frame, bars, tuple(limit or ONE for limit in corner))
        if lot in frame[1] and any(set(lot) <= set(other) for other in possible):
            return False
    return True


class Coherent(unittest.TestCase):

    def test_by_hand(self):
        full = full_frame(2)
        self.assertIs(is_coherent(full, WEAK), True)
        self.assertIs(is_coherent(full, WEAK[:3]), True)
        self.assertIs(is_coherent(full, WEAK[1:3]), True)
        self.assertIs(is_coherent(full, WEAK[::3]), False)
        self.assertIs(is_coherent(full, ()), True)
        self.assertIs(is_coherent(full, (((0,), (NIL, None)), ((0, 1), (QUARTER, HALF)))), False)
        self.assertIs(is_coherent(bars=(((0,), (NIL, None)), ((0, 1), (QUARTER, ONE))), frame=full), True)
        more = (((0,), (QUARTER, None)), ((0, 1), (QUARTER, None)), ((0, 1), (HALF, TENTH)))
        self.assertIs(is_coherent(full, more), True)

    def test_no_limit_and_the_limit_1_do_the_same(self):
        frame = full_frame(2)
        for one in (None, ONE):
            for other in (None, ONE):
                self.assertIs(is_coherent(frame, (((0,), (one, None)), ((0, 1), (other, ONE)))), True)
                self.assertIs(is_coherent(frame, (((0,), (one, None)), ((0, 1), (other, HALF)))), False)
                self.assertIs(is_coherent(frame, (((0,), (one, None)), ((0, 1), (HALF, other)))), False)

    def test_two_corners_together_do_not_do_for_one(self):
        # At each number of 1 one of both would have to do, but both of them fail at (1 / 2, 1).
        bars = (((0,), (HALF, None)), ((0, 1), (QUARTER, None)), ((0, 1), (HALF, HALF)))
        self.assertIs(is_coherent(full_frame(2), bars), False)
        self.assertIs(coherent_at_cells(full_frame(2), bars), False)

    def test_sets_that_are_no_lots_do_not_count(self):
        bars = (((0,), (HALF, None, None)), ((0, 1, 2), (HALF, None, None)))
        self.assertIs(is_coherent((3, ((0,), (0, 1, 2), (1,))), bars), True)
        self.assertIs(is_coherent((3, ((0,), (0, 1), (0, 1, 2))), bars), False)
        self.assertIs(is_coherent((3, ((0, 1), (1,))), bars[:1]), True)
        self.assertIs(is_coherent((3, ((0, 2), (1,))), (((0, 1), (NIL, None, None)),)), True)

    def test_drawn(self):
        draw = random.Random(8)
        found = [0, 0]
        for _ in range(400):
            count = draw.randint(1, 4)
            frame = drawn_frame(draw, count)
            bars = drawn_bars(draw, count, draw.choice((0, 1, 2, 4, 6)), draw.choice((2, 4)), 0.5)
            if draw.random() < 0.5:
                bars = self.widened(draw, count, bars)
            told = is_coherent(frame, bars)
            self.assertIs(told, coherent_at_cells(frame, bars))
            self.assertIs(told, coherent_by_corners(frame, bars))
            self.assertIs(told, coherent_at_highest(frame, bars))
            found[told] += 1
        self.assertGreater(min(found), 80)

    def widened(self, draw, count, bars):
        """The bars with most corners put to sets around their own, too."""
        found = list(bars)
        for lot, corner in bars:
            for other in subsets(range(count)):
                if set(lot) < set(other) and draw.random() < 0.9:
                    found.append((other, tuple(limit if limit and draw.random() < 0.95 else None for limit in corner)))
        return tuple(found)

    def test_bars_of_books_that_ask_nothing_of_others_are_coherent(self):
        draw = random.Random(9)
        for _ in range(60):
            count = draw.randint(1, 4)
            book = []
            for _ in range(draw.randint(0, 6)):
                group = draw.choice(subsets(range(count)))
                corner = drawn_corner(draw, count, 5, 0.3)
                book.append((group, 1, tuple(each if at in group else None for at, each in enumerate(corner))))
            # A saying that one of a group is false is wrong for just the lots around the group.
            frame = drawn_frame(draw, count)
            self.assertIs(is_coherent(frame, bars_of(frame, tuple(book))), True)


if __name__ == "__main__":
    unittest.main()
