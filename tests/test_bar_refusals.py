"""What is refused of bars and beside them: by which error, with which value, and what is checked first."""

from fractions import Fraction

from surefinds.bars import are_bars, bars_of, bars_risk, called, is_coherent, possible_lots, sure_count
from surefinds.closed import is_consonant, never_less, parting, quiet_numbers
from surefinds.degrees import least_degree, scaled_bars
from surefinds.errors import (InvalidBars, InvalidBook, InvalidCount, InvalidDegree, InvalidFrame, InvalidNumber,
                              InvalidNumbers, InvalidSet, InvalidWeb, InvalidWeights, TooMany)
from surefinds.frames import full_frame, implied_frame
from surefinds.named import ranked_bars, web_bars, web_weights, weighed_bars
from tests.support import NOT_COUNTS, NOT_FRACTIONS, NOT_NUMBERS, NOT_WHOLE, ONE, pair, subsets
from tests.test_refusals import NOT_CORNERS, NOT_FRAMES, NOT_SAYINGS, NOT_SETS, NOT_TUPLES, Refusals

NIL, HALF, THIRD, TENTH = (0, 1), (1, 2), (1, 3), (1, 10)

# Of two suppositions.
RIGHT = ((0, 1), (HALF, None))
NOT_BARS = (
    (), ((0, 1),), ((0, 1), (HALF, None), ()), [(0, 1), (HALF, None)], ((HALF, None), (0, 1)), None, 3, "ab", (0, 1),
    ((0,), (HALF, HALF)), ((0,), (None, HALF)), ((0,), (None, ONE)), ((0,), (HALF, ONE)), ((0,), (HALF, NIL)),
    ((1,), (ONE, None)), ((1,), (NIL, None)), ((1,), (HALF, HALF))
) + tuple((each, (None, None)) for each in NOT_SETS) + tuple(((0, 1), each) for each in NOT_CORNERS)
NOT_DEGREES = NOT_NUMBERS + (None, NIL)
NOT_WEIGHTS = NOT_FRACTIONS + (None, (-1, 2), (-1, 1))
NOT_ROWS = NOT_TUPLES + ((), (HALF,), (HALF, HALF, HALF))
# Of two suppositions, at place 1.
NOT_WEB_ROWS = NOT_ROWS + (
    (NIL,), (NIL, NIL, NIL), (HALF, HALF), (NIL, ONE), (HALF, THIRD), ((3, 2), NIL), ((2, 1), NIL), (10 ** 399, 1)
) + tuple((each, NIL) for each in NOT_WEIGHTS) + tuple((HALF, each) for each in NOT_WEIGHTS)


def askers(frame):
    """Functions of bars alone, with what else is right."""
    count = frame[0]
    numbers = (HALF,) * count
    return (lambda bars: bars_risk(frame, bars), lambda bars: possible_lots(frame, bars, numbers),
            lambda bars: sure_count(frame, bars, numbers, (0,)), lambda bars: called(frame, bars, numbers),
            lambda bars: is_coherent(frame, bars), lambda bars: never_less(frame, bars, ()),
            lambda bars: never_less(frame, (), bars), lambda bars: parting(frame, bars, ()),
            lambda bars: parting(frame, (), bars), lambda bars: is_consonant(frame, bars),
            lambda bars: quiet_numbers(frame, bars), lambda bars: scaled_bars(frame, bars, HALF),
            lambda bars: least_degree(frame, bars, numbers, (0,), 1))


class OfFrames(Refusals):

    ASKS = ((bars_of, 1), (bars_risk, 1), (possible_lots, 2), (sure_count, 3), (called, 2), (is_coherent, 1),
            (never_less, 2), (parting, 2), (is_consonant, 1), (quiet_numbers, 1), (scaled_bars, 2), (least_degree, 4),
            (weighed_bars, 2), (ranked_bars, 1), (web_bars, 3))

    def test_frame_is_checked_first(self):
        for ask, more in self.ASKS:
            for value in NOT_FRAMES:
                self.refuse(InvalidFrame, value, ask, value, *[None] * more)

    def test_by_name(self):
        self.refuse(InvalidFrame, None, bars_of, book=(), frame=None)
        self.refuse(InvalidFrame, None, sure_count, group=(0,), numbers=(), bars=(), frame=None)
        self.refuse(InvalidFrame, None, parting, other=(), bars=(), frame=None)
        self.refuse(InvalidFrame, None, least_degree, number=1, group=(0,), numbers=(), bars=(), frame=None)
        self.refuse(InvalidFrame, None, web_bars, degree=1, web=1, weights=1, frame=None)


class OfBooks(Refusals):

    def test_book(self):
        right = ((0, 1), 2, (HALF, None))
        self.refuse_row(InvalidBook, lambda each: bars_of(full_frame(2), each), right, NOT_SAYINGS, 60)

    def test_too_many_comes_last(self):
        book = tuple(((0, 1, 2, 3, 4), 5, (pair(at, 60), pair(60 - at, 60)) + (None,) * 3) for at in range(60))
        self.refuse(TooMany, 60 * 8 + 23, bars_of, full_frame(5), book)
        self.refuse(InvalidBook, 60, bars_of, full_frame(5), book + book[:1])
        self.refuse(InvalidBook, 59, bars_of, full_frame(5), book[:59] + (None,))
        self.refuse(InvalidFrame, 5, bars_of, 5, book)


class OfBars(Refusals):

    def test_no_tuple(self):
        for ask in askers(full_frame(2)):
            for value in NOT_TUPLES + ([RIGHT],):
                self.refuse(InvalidBars, None, ask, value)

    def test_the_first_wrong_pair(self):
        for ask in askers(full_frame(2)):
            for wrong in NOT_BARS:
                self.refuse(InvalidBars, 0, ask, (wrong,))
                self.refuse(InvalidBars, 1, ask, (RIGHT, wrong, wrong, RIGHT))
            for at in range(12):
                self.refuse(InvalidBars, at, ask, (RIGHT,) * at + (NOT_BARS[at],) * (300 - at))

    def test_for_another_count(self):
        for count in (1, 3):
            for ask in askers(full_frame(count)):
                self.refuse(InvalidBars, 0, ask, (RIGHT,))

    def test_the_sixty_first_of_one_set(self):
        alone, other = ((0,), (HALF, None)), ((1,), (None, HALF))
        for ask in askers(full_frame(2)):
            ask((RIGHT,) * 60)
            ask((RIGHT, alone, other) * 60)
            self.refuse(InvalidBars, 60, ask, (RIGHT,) * 61)
            self.refuse(InvalidBars, 60, ask, (RIGHT,) * 300)
            self.refuse(InvalidBars, 180, ask, (RIGHT, alone, other) * 60 + (other,))
            self.refuse(InvalidBars, 61, ask, (alone,) + (RIGHT,) * 61 + (None,))
            self.refuse(InvalidBars, 120, ask, (RIGHT,) * 59 + (alone,) * 60 + (RIGHT, RIGHT))
            self.refuse(InvalidBars, 60, ask, (RIGHT,) * 60 + (None,))

    def test_corners_of_one_set_need_not_be_alike(self):
        bars = tuple(((0, 1), (pair(at, 60), None)) for at in range(61))
        for ask in askers(full_frame(2)):
            ask(bars[1:])
            self.refuse(InvalidBars, 60, ask, bars)

    def test_sets_that_are_no_lots_count(self):
        for ask in askers((2, ((0, 1),))):
            ask((((1,), (None, HALF)),) * 60)
            self.refuse(InvalidBars, 60, ask, (((1,), (None, HALF)),) * 61)

    def test_the_two_hundred_and_forty_first(self):
        lots = subsets(range(3))
        bars = tuple((lot, (None, None, None)) for lot in lots[:4] * 60)
        more = ((lots[4], (None, None, None)),)
        for ask in askers(full_frame(3)):
            ask(bars)
            self.refuse(InvalidBars, 240, ask, bars + more)
            self.refuse(InvalidBars, 240, ask, bars + more * 60)
            self.refuse(InvalidBars, 240, ask, bars + bars)
            self.refuse(InvalidBars, 240, ask, bars + (None,))
            self.refuse(InvalidBars, 239, ask, bars[:239] + (None,) + more)
            self.refuse(InvalidBars, 240, ask, bars[1:] + more * 2)

    def test_a_limit_outside_of_the_set(self):
        for ask in askers(full_frame(3)):
            for limit in (NIL, THIRD, ONE):
                for lot in subsets(range(3)):
                    for at in range(3):
                        bars = ((lot, tuple(limit if at == index else None for index in range(3))),)
                        if at in lot:
                            ask(bars)
                        else:
                            self.refuse(InvalidBars, 0, ask, bars)

    def test_other_is_checked_just_behind_bars(self):
        for ask in (never_less, parting):
            frame = full_frame(2)
            self.refuse(InvalidBars, None, ask, frame, None, (None,))
            self.refuse(InvalidBars, 1, ask, frame, (RIGHT, None), None)
            self.refuse(InvalidBars, 2, ask, frame, (RIGHT,) * 60, (RIGHT, RIGHT, None))
            self.refuse(InvalidBars, 0, ask, other=None, bars=(None,), frame=frame)
            ask(frame, (RIGHT,) * 60, (RIGHT,) * 60)

    def test_count_of_are_bars(self):
        for value in NOT_COUNTS:
            self.refuse(InvalidCount, value, are_bars, value, None)
            self.refuse(InvalidCount, value, are_bars, value=(RIGHT,), count=value)


class OfNumbers(Refusals):

    FRAME = full_frame(2)

    def asks(self, bars=()):
        return (lambda numbers: possible_lots(self.FRAME, bars, numbers),
                lambda numbers: called(self.FRAME, bars, numbers),
                lambda numbers: sure_count(self.FRAME, bars, numbers, None if bars is None else (0,)),
                lambda numbers: least_degree(self.FRAME, bars, numbers, (0,), 1))

    def test_numbers(self):
        for ask in self.asks():
            for value in NOT_ROWS:
                self.refuse(InvalidNumbers, None, ask, value)
            for wrong in NOT_NUMBERS + (None,):
                self.refuse(InvalidNumbers, 0, ask, (wrong, HALF))
                self.refuse(InvalidNumbers, 0, ask, (wrong, wrong))
                self.refuse(InvalidNumbers, 1, ask, (HALF, wrong))

    def test_bars_are_checked_before_numbers(self):
        for ask in self.asks(None):
            self.refuse(InvalidBars, None, ask, None)
        for ask in self.asks((RIGHT, None)):
            self.refuse(InvalidBars, 1, ask, (None, None))

    def test_numbers_are_checked_before_the_group(self):
        self.refuse(InvalidNumbers, 1, sure_count, self.FRAME, (), (HALF, None), None)
        self.refuse(InvalidNumbers, None, least_degree, self.FRAME, (), None, None, None)
        self.refuse(InvalidNumbers, 0, sure_count, group=(), numbers=(None, None), bars=(), frame=self.FRAME)


class OfGroups(Refusals):

    NUMBERS = (HALF, THIRD)

    def test_group(self):
        for frame in (full_frame(2), (2, ((0, 1),))):
            for value in NOT_SETS:
                self.refuse(InvalidSet, value, sure_count, frame, (), self.NUMBERS, value)
                self.refuse(InvalidSet, value, least_degree, frame, (), self.NUMBERS, value, None)
                self.refuse(InvalidSet, value, least_degree, frame, (), self.NUMBERS, value, 1)
            for group in ((0,), (0, 1), (1,)):
                sure_count(frame, (), self.NUMBERS, group)
                least_degree(frame, (), self.NUMBERS, group, 1)

    def test_number(self):
        frame = full_frame(2)
        for group, wrongs in (((0,), (0, 2, -1, 10 ** 399)), ((0, 1), (0, 3, -2))):
            for value in NOT_WHOLE + wrongs:
                self.refuse(InvalidNumber, value, least_degree, frame, (), self.NUMBERS, group, value)
        self.refuse(InvalidNumber, 2, least_degree, number=2, group=(1,), numbers=self.NUMBERS, bars=(), frame=frame)
        for number in (1, 2):
            least_degree(frame, (), self.NUMBERS, (0, 1), number)


class OfDegrees(Refusals):

    def test_degree(self):
        frame, web = full_frame(2), ((NIL, ONE), (HALF, NIL))
        asks = (lambda degree: scaled_bars(frame, (RIGHT,), degree), lambda degree: ranked_bars(frame, degree),
                lambda degree: weighed_bars(frame, (ONE, ONE), degree),
                lambda degree: web_bars(frame, (HALF, HALF), web, degree))
        for ask in asks:
            for value in NOT_DEGREES:
                self.refuse(InvalidDegree, value, ask, value)
            for degree in (ONE, (1, 10 ** 399), (10 ** 399 - 1, 10 ** 399)):
                ask(degree)

    def test_it_is_checked_last(self):
        frame, web = full_frame(2), ((NIL, NIL), (NIL, NIL))
        self.refuse(InvalidBars, 0, scaled_bars, frame, (None,), None)
        self.refuse(InvalidBars, None, scaled_bars, degree=NIL, bars=None, frame=frame)
        self.refuse(InvalidWeights, 1, weighed_bars, frame, (ONE, None), None)
        self.refuse(InvalidWeights, None, weighed_bars, degree=NIL, weights=None, frame=frame)
        self.refuse(InvalidWeights, None, web_bars, frame, (ONE, ONE), web, None)
        self.refuse(InvalidWeb, 1, web_bars, frame, (ONE, NIL), (web[0], None), None)
        self.refuse(InvalidDegree, None, web_bars, frame, (ONE, NIL), web, None)
        self.refuse(InvalidDegree, NIL, ranked_bars, degree=NIL, frame=frame)


class OfWeights(Refusals):

    WEB = ((NIL, ONE), (HALF, NIL))

    def asks(self):
        frame = full_frame(2)
        return (lambda weights: weighed_bars(frame, weights, HALF),
                lambda weights: web_bars(frame, weights, self.WEB, HALF),
                lambda weights: web_weights(weights, self.WEB, (0,)))

    def test_weights(self):
        for ask in self.asks():
            for value in NOT_TUPLES + ((), [HALF, HALF]):
                self.refuse(InvalidWeights, None, ask, value)
            for wrong in NOT_WEIGHTS:
                self.refuse(InvalidWeights, 0, ask, (wrong, HALF))
                self.refuse(InvalidWeights, 0, ask, (wrong, wrong))
                self.refuse(InvalidWeights, 1, ask, (HALF, wrong))
                self.refuse(InvalidWeights, 1, ask, ((3, 2), wrong))
        for ask in self.asks()[:2]:
            for value in ((HALF,), (HALF, HALF, HALF)):
                self.refuse(InvalidWeights, None, ask, value)

    def test_where_they_tell_the_count(self):
        self.refuse(InvalidWeights, None, web_weights, (NIL,) * 6, None, None)
        self.refuse(InvalidWeights, None, web_weights, (None,) * 6, None, None)
        self.refuse(InvalidWeights, None, web_weights, (NIL,) * 300, None, None)
        for count in range(1, 6):
            nothing = (NIL,) * count
            self.refuse(InvalidWeights, count - 1, web_weights, nothing[1:] + (None,), None, None)
            self.refuse(InvalidWeb, None, web_weights, nothing, (nothing,) * (count + 1), None)
            self.refuse(InvalidWeb, None, web_weights, nothing, (nothing,) * (count - 1), None)
            beyond = (count,)
            self.refuse(InvalidSet, beyond, web_weights, nothing, (nothing,) * count, beyond)
            self.assertEqual(web_weights(nothing, (nothing,) * count, (count - 1,)), nothing)

    def test_a_sum_above_1(self):
        web, frame = (((NIL,) * 3,) * 3), full_frame(3)
        just, above = (HALF, THIRD, (1, 6)), (HALF, THIRD, pair(Fraction(1, 6) + Fraction(1, 10 ** 398)))
        self.assertEqual(web_weights(just, web, (0, 1, 2)), just)
        self.assertEqual(web_weights((ONE, NIL, NIL), web, (0,)), (ONE, NIL, NIL))
        for weights in (above, (ONE, NIL, (1, 10 ** 399)), (HALF, HALF, HALF), (NIL, (2, 1), NIL),
                        (NIL, NIL, (10 ** 399, 3))):
            self.refuse(InvalidWeights, None, web_weights, weights, web, (0,))
            self.refuse(InvalidWeights, None, web_bars, frame, weights, web, HALF)
            # Ahead of what is wrong with the web, behind what is wrong with an element.
            self.refuse(InvalidWeights, None, web_weights, weights, None, None)
            self.refuse(InvalidWeights, None, web_bars, frame, weights, None, None)
            self.refuse(InvalidWeights, 2, web_weights, weights[:2] + (None,), None, None)
            weighed_bars(frame, weights, HALF)

    def test_no_tuple_of_what_may_be_added(self):
        self.refuse(InvalidWeights, 1, web_weights, (ONE, True), None, None)
        self.refuse(InvalidWeights, 0, web_weights, (1, 1), None, None)


class OfWebs(Refusals):

    def asks(self):
        frame = full_frame(2)
        return (lambda web: web_bars(frame, (HALF, HALF), web, HALF), lambda web: web_weights((HALF, NIL), web, (1,)))

    def test_web(self):
        for ask in self.asks():
            for value in NOT_TUPLES + ((), ((NIL, NIL),), ((NIL, NIL),) * 3, [(NIL, NIL), (NIL, NIL)]):
                self.refuse(InvalidWeb, None, ask, value)
            for wrong in NOT_WEB_ROWS:
                self.refuse(InvalidWeb, 1, ask, ((NIL, HALF), wrong))
                turned = wrong[::-1] if type(wrong) is tuple else wrong
                self.refuse(InvalidWeb, 0, ask, (turned, wrong))
                self.refuse(InvalidWeb, 0, ask, (turned, (HALF, NIL)))
            for row in ((NIL, NIL), (ONE, NIL), (THIRD, NIL)):
                ask(((NIL, HALF), row))

    def test_rows_with_sums_just_1_and_above_1(self):
        weights = (NIL, HALF, NIL)
        just = ((NIL, HALF, HALF), (THIRD, NIL, (2, 3)), (ONE, NIL, NIL))
        self.assertEqual(web_weights(weights, just, (0, 1, 2)), weights)
        more = 10 ** 399
        for at, row in enumerate(((NIL, HALF, (more + 1, 2 * more - 1)), (THIRD, NIL, ONE), (ONE, (1, more), NIL))):
            self.refuse(InvalidWeb, at, web_weights, weights, just[:at] + (row,) + just[at + 1:], (0,))
            self.refuse(InvalidWeb, at, web_bars, full_frame(3), weights, just[:at] + (row,) * (3 - at), HALF)

    def test_its_own_place(self):
        weights = (NIL, NIL, NIL)
        for at in range(3):
            rows = [weights] * 3
            rows[at] = tuple(HALF if index == at else NIL for index in range(3))
            self.refuse(InvalidWeb, at, web_weights, weights, tuple(rows), (0,))

    def test_web_is_checked_before_lot(self):
        self.refuse(InvalidWeb, None, web_weights, (HALF, HALF), None, None)
        self.refuse(InvalidWeb, 0, web_weights, lot=(5,), web=(None, None), weights=(HALF, HALF))
        web = ((NIL, NIL), (NIL, NIL))
        for value in NOT_SETS:
            self.refuse(InvalidSet, value, web_weights, (HALF, HALF), web, value)
            self.refuse(InvalidSet, value, web_weights, lot=value, web=web, weights=(ONE, NIL))


class OfCells(Refusals):

    def asks(self, frame, bars, other=()):
        asks = ((never_less, (frame, bars, other)), (never_less, (frame, other, bars)), (parting, (frame, bars, other)),
                (parting, (frame, other, bars)))
        return asks if other else asks + ((is_consonant, (frame, bars)), (quiet_numbers, (frame, bars)))

    def lattice(self, *many):
        """Bars of the set of all suppositions with so many cells along each one."""
        lot = tuple(range(len(many)))
        return tuple((lot, tuple(pair(at, bottom - 1) if at < bottom - 1 else None for bottom in many))
                     for at in range(max(many) - 1))

    def test_4096_cells(self):
        for bars in (self.lattice(8, 8, 8, 8), self.lattice(2, 4, 8, 8, 8), self.lattice(16, 16, 16)):
            frame = (len(bars[0][0]), (bars[0][0],))
            for ask, told in self.asks(frame, bars):
                ask(*told)

    def test_above_4096_cells(self):
        for many, cells in (((9, 8, 8, 8), 4608), ((17, 61, 61), 63257), ((61,) * 5, 61 ** 5),
                            ((2, 3, 11, 11, 6), 4356)):
            bars = self.lattice(*many)
            frame = (len(many), (tuple(range(len(many))),))
            for ask, told in self.asks(frame, bars):
                self.refuse(TooMany, cells, ask, *told)

    def test_4097_cells(self):
        # 241 times 17.
        lots = ((0,), (0, 1), (0, 1, 2), (0, 2))
        bars = tuple((lots[at % 4], (pair(at, 240), None, None)) for at in range(240))
        cross = tuple((lots[1], (None, pair(at, 20), None)) for at in range(16))
        frame = full_frame(3)
        for other, cells in ((cross, 4097), (cross[1:], 3856), (cross + (((1,), (None, ONE, None)),), 4097)):
            for ask, told in self.asks(frame, bars, other):
                if cells > 4096:
                    self.refuse(TooMany, cells, ask, *told)
                else:
                    ask(*told)
        is_consonant(frame, bars)

    def test_limits_of_both_bars_count_once(self):
        bars = self.lattice(8, 8, 8, 8)
        frame = (4, ((0, 1, 2, 3),))
        self.assertIs(never_less(frame, bars, bars), True)
        more = (((0,), ((1, 20), None, None, None)),)
        for ask, told in self.asks(frame, bars, more):
            self.refuse(TooMany, 4608, ask, *told)

    def test_sets_that_are_no_lots_count(self):
        bars = self.lattice(8, 8, 8, 8) + (((0,), ((1, 20), None, None, None)),)
        for ask, told in self.asks((4, ((0, 1, 2, 3),)), bars):
            self.refuse(TooMany, 4608, ask, *told)

    def test_no_limit_and_the_limit_1_count_once_together(self):
        bars = self.lattice(8, 8, 8, 8) + (((0, 1, 2, 3), (ONE, ONE, None, None)), ((1,), (None, ONE, None, None)))
        for ask, told in self.asks((4, ((0, 1, 2, 3),)), bars):
            ask(*told)

    def test_the_limit_0_counts(self):
        bars = self.lattice(9, 8, 8, 8)
        self.assertEqual(bars[0][1][0], NIL)
        for ask, told in self.asks((4, ((0, 1, 2, 3),)), (((0, 1, 2, 3), (None,) + bars[0][1][1:]),) + bars[1:]):
            ask(*told)

    def test_whatever_would_be_told(self):
        bars = self.lattice(9, 8, 8, 8)
        for ask in (never_less, parting):
            self.refuse(TooMany, 4608, ask, (4, ((0,),)), bars, bars)
        for ask in (is_consonant, quiet_numbers):
            self.refuse(TooMany, 4608, ask, (4, ((0,), (1,))), bars)

    def test_it_comes_last(self):
        bars = self.lattice(9, 8, 8, 8)
        frame = full_frame(4)
        for ask in (never_less, parting):
            self.refuse(InvalidFrame, None, ask, None, bars, bars)
            self.refuse(InvalidBars, 8, ask, frame, bars + (None,), ())
            self.refuse(InvalidBars, None, ask, frame, bars, None)
            self.refuse(InvalidBars, 8, ask, frame, bars, bars + (None,))
        for ask in (is_consonant, quiet_numbers):
            self.refuse(InvalidFrame, None, ask, None, bars)
            self.refuse(InvalidBars, 8, ask, frame, bars + (None,))

    def test_other_functions_know_no_cells(self):
        bars = self.lattice(61, 61, 61)
        frame = full_frame(3)
        bars_risk(frame, bars)
        is_coherent(frame, bars)
        scaled_bars(frame, bars, HALF)
        self.assertIs(are_bars(3, bars), True)
