"""Books: what they say, what is wrong for a lot, and their risk."""

import random
import unittest
from fractions import Fraction

from surefinds.books import is_book, risk, riskiest, says, wrong_corners
from surefinds.chances import greatest_chance
from surefinds.errors import InvalidCount
from surefinds.frames import full_frame, implied_frame
from tests.support import drawn_book, drawn_frame, drawn_number, pair, subsets, whole_of
from tests.test_refusals import NOT_SAYINGS, NOT_TUPLES

NIL, ONE, HALF, THIRD, QUARTER, TENTH = (0, 1), (1, 1), (1, 2), (1, 3), (1, 4), (1, 10)


def plain_wrong_corners(book, lot):
    found = []
    for group, number, corner in book:
        if number > len(set(group) - set(lot)):
            found.append(tuple(limit if at in lot else None for at, limit in enumerate(corner)))
    return tuple(found)


class IsBook(unittest.TestCase):

    RIGHT = ((0, 1), 2, (HALF, None))

    def test_books(self):
        draw = random.Random(1)
        for count in range(1, 6):
            for many in (0, 1, 7, 60):
                self.assertIs(is_book(count, drawn_book(draw, count, many)), True)
        self.assertIs(is_book(value=(self.RIGHT,) * 60, count=2), True)

    def test_the_sixty_first(self):
        self.assertIs(is_book(2, (self.RIGHT,) * 61), False)
        self.assertIs(is_book(2, (self.RIGHT,) * 200), False)

    def test_anything_else(self):
        for value in NOT_TUPLES + ([self.RIGHT],):
            self.assertIs(is_book(2, value), False)
        for wrong in NOT_SAYINGS:
            self.assertIs(is_book(2, (wrong,)), False)
            self.assertIs(is_book(2, (self.RIGHT, wrong)), False)
            self.assertIs(is_book(2, (wrong, self.RIGHT)), False)
        self.assertIs(is_book(2, self.RIGHT), False)

    def test_for_another_count(self):
        for count in (1, 3, 4, 5):
            self.assertIs(is_book(count, (self.RIGHT,)), False)
        with self.assertRaises(InvalidCount):
            is_book(6, ())


class Says(unittest.TestCase):

    def test_by_hand(self):
        book = (((0,), 1, (QUARTER, None)), ((0, 1), 1, (None, None)), ((0, 1), 2, (HALF, HALF)), ((1,), 1, (NIL, ONE)))
        self.assertEqual(says(2, book, (QUARTER, HALF)), (0, 1, 2))
        self.assertEqual(says(2, book, (THIRD, (501, 1000))), (1,))
        self.assertEqual(says(2, book, (NIL, ONE)), (0, 1, 3))
        self.assertEqual(says(2, book, (ONE, ONE)), (1,))
        self.assertEqual(says(2, (), (ONE, ONE)), ())
        self.assertEqual(says(numbers=((2, 5), HALF), book=book, count=2), (1, 2))

    def test_drawn(self):
        draw = random.Random(2)
        for _ in range(150):
            count = draw.randint(1, 5)
            book = drawn_book(draw, count, draw.randint(0, 20))
            numbers = tuple(drawn_number(draw, 8) for _ in range(count))
            told = [at for at, (_, _, corner) in enumerate(book)
                    if all(limit is None or whole_of(each) <= whole_of(limit) for each, limit in zip(numbers, corner))]
            self.assertEqual(says(count, book, numbers), tuple(told))


class WrongCorners(unittest.TestCase):

    def test_by_hand(self):
        full = full_frame(3)
        book = (((0,), 1, (TENTH, QUARTER, HALF)), ((0, 1), 1, (HALF, None, TENTH)), ((0, 1, 2), 3, (None, THIRD, THIRD)))
        self.assertEqual(wrong_corners(full, book, (0,)), ((TENTH, None, None), (None, None, None)))
        self.assertEqual(wrong_corners(full, book, (1,)), ((None, THIRD, None),))
        self.assertEqual(wrong_corners(full, book, (2,)), ((None, None, THIRD),))
        self.assertEqual(wrong_corners(full, book, (0, 1)),
                         ((TENTH, QUARTER, None), (HALF, None, None), (None, THIRD, None)))
        self.assertEqual(wrong_corners(full, book, (0, 1, 2)), tuple(corner for _, _, corner in book))
        self.assertEqual(wrong_corners(full, (), (0,)), ())

    def test_like_ones_come_as_often_as_they_are_there(self):
        saying = ((0,), 1, (QUARTER, QUARTER))
        self.assertEqual(wrong_corners(full_frame(2), (saying,) * 3, (0,)), ((QUARTER, None),) * 3)

    def test_drawn(self):
        draw = random.Random(3)
        for _ in range(80):
            count = draw.randint(1, 5)
            book, frame = drawn_book(draw, count, draw.randint(0, 15)), drawn_frame(draw, count)
            for lot in frame[1]:
                self.assertEqual(wrong_corners(frame, book, lot), plain_wrong_corners(book, lot))
                self.assertEqual(wrong_corners(lot=lot, book=book, frame=frame), plain_wrong_corners(book, lot))


class Risk(unittest.TestCase):

    def test_single_sayings(self):
        book = tuple(((at,), 1, tuple((1, 20) if at == other else None for other in range(5))) for at in range(5))
        self.assertEqual(risk(full_frame(5), book), QUARTER)
        self.assertEqual(riskiest(full_frame(5), book), (0, 1, 2, 3, 4))
        self.assertEqual(risk((5, ((0, 1), (2,), (2, 4))), book), TENTH)
        self.assertEqual(riskiest((5, ((0, 1), (2,), (2, 4))), book), (0, 1))

    def test_limits_outside_of_the_lot_do_not_help(self):
        # For (0,) supposition 1 is false, so that its number may be 0.
        saying = ((0,), 1, (HALF, TENTH))
        self.assertEqual(risk(full_frame(2), (saying,)), HALF)
        self.assertEqual(riskiest(full_frame(2), (saying,)), (0,))
        self.assertEqual(risk((2, ((0, 1), (1,))), (saying,)), TENTH)
        self.assertEqual(riskiest((2, ((0, 1), (1,))), (saying,)), (0, 1))

    def test_a_limit_outside_of_the_set_only(self):
        # It says that 0 is false by the number of 1 alone: surely wrong where just 0 is true.
        saying = ((0,), 1, (None, TENTH))
        self.assertEqual(risk(full_frame(2), (saying,)), ONE)
        self.assertEqual(riskiest(full_frame(2), (saying,)), (0,))
        self.assertEqual(risk(implied_frame(2, (((0,), 1),)), (saying,)), TENTH)

    def test_nothing_wrong(self):
        frame = (3, ((0,), (0, 2), (2,)))
        self.assertEqual(risk(frame, ()), NIL)
        self.assertEqual(riskiest(frame, ()), (0,))
        never = (((1,), 1, (None, None, None)),)
        self.assertEqual(risk(frame, never), NIL)
        self.assertEqual(riskiest(frame, never), (0,))
        idle = (((0,), 1, (NIL, None, None)),)
        self.assertEqual(risk(frame, idle), NIL)
        self.assertEqual(riskiest(frame, idle), (0,))

    def test_the_first_of_like_lots(self):
        book = (((1,), 1, (None, QUARTER, None)), ((2,), 1, (None, None, QUARTER)))
        self.assertEqual(riskiest((3, ((0,), (0, 1), (0, 2), (1,))), book), (0, 1))
        self.assertEqual(risk((3, ((0,), (0, 1), (0, 2), (1,))), book), QUARTER)

    def test_drawn(self):
        draw = random.Random(4)
        for _ in range(80):
            count = draw.randint(1, 5)
            book, frame = drawn_book(draw, count, draw.choice((0, 1, 3, 8, 20))), drawn_frame(draw, count)
            chances = [whole_of(greatest_chance(count, plain_wrong_corners(book, lot))) for lot in frame[1]]
            self.assertEqual(risk(frame, book), pair(max(chances)))
            self.assertEqual(riskiest(frame, book), frame[1][chances.index(max(chances))])
            self.assertEqual(risk(book=book, frame=frame), risk(frame, book))
            self.assertEqual(riskiest(book=book, frame=frame), riskiest(frame, book))

    def test_sixty_sayings(self):
        draw = random.Random(5)
        book = []
        for _ in range(60):
            parts = [draw.randint(1, 99) for _ in range(5)]
            corner = tuple(pair(Fraction(part, 2 * sum(parts))) for part in parts)
            group = draw.choice(subsets(range(5)))
            book.append((group, draw.randint(1, len(group)), corner))
        frame = full_frame(5)
        told = risk(frame, tuple(book))
        self.assertTrue(0 < whole_of(told) <= 1)
        self.assertEqual(greatest_chance(5, wrong_corners(frame, tuple(book), riskiest(frame, tuple(book)))), told)

    def test_arguments_are_left_alone(self):
        draw = random.Random(6)
        book, frame = drawn_book(draw, 4, 12), drawn_frame(draw, 4)
        kept = eval(repr((book, frame)))
        for ask in (risk, riskiest):
            self.assertEqual(ask(frame, book), ask(*kept[::-1]))
        self.assertEqual((book, frame), kept)
