"""What ways, shares and certificates refuse: by which error, with which value, and what is checked first."""

from fractions import Fraction

from surefinds.certificates import (certify_chance, certify_coherent, certify_consonant, certify_mean,
                                    certify_never_less, certify_risk, certify_sure)
from surefinds.errors import (InvalidBars, InvalidBook, InvalidCorners, InvalidCount, InvalidDegree, InvalidFraction,
                              InvalidFrame, InvalidLimits, InvalidNumber, InvalidNumbers, InvalidSet, InvalidWeb,
                              InvalidWeights, InvalidWorths, TooMany)
from surefinds.frames import full_frame
from surefinds.shares import apart_share, greatest_share, share, share_worths
from surefinds.ways import (down_risk, hommel_number, ranked_count, step_down, step_up, up_risk, web_calls)
from tests.support import NOT_COUNTS, NOT_FRACTIONS, NOT_NUMBERS, NOT_WHOLE, ONE, Odd, nested, pair
from tests.test_bar_refusals import NOT_BARS, NOT_DEGREES, NOT_ROWS, NOT_WEB_ROWS, NOT_WEIGHTS, RIGHT
from tests.test_refusals import (NOT_CORNERS, NOT_FRAMES, NOT_SAYINGS, NOT_SETS, NOT_TUPLES, NOT_WORTHS, Refusals)

NIL, HALF, THIRD, TENTH = (0, 1), (1, 2), (1, 3), (1, 10)
LONG = 10 ** 399

# Of no count of suppositions.
NOT_LEADING = NOT_TUPLES + ((), (NIL,) * 6, (None,) * 6, (NIL,) * 300, ((),) * 7)
NOT_BELOW_ONE = NOT_NUMBERS + (None, ONE, (LONG + 1, LONG))


class OfNumbers(Refusals):

    LEADING = (lambda numbers: step_down(numbers, None), lambda numbers: step_up(numbers, None),
               lambda numbers: hommel_number(numbers, None), lambda numbers: ranked_count(numbers, None, None),
               lambda numbers: share(numbers, None, None))

    def test_where_they_tell_the_count(self):
        for ask in self.LEADING:
            for value in NOT_LEADING:
                self.refuse(InvalidNumbers, None, ask, value)
            self.refuse(InvalidNumbers, None, ask, [HALF, HALF])
            for wrong in NOT_NUMBERS + (None,):
                self.refuse(InvalidNumbers, 0, ask, (wrong,))
                self.refuse(InvalidNumbers, 0, ask, (wrong, wrong))
                self.refuse(InvalidNumbers, 1, ask, (HALF, wrong))
                self.refuse(InvalidNumbers, 4, ask, (HALF, NIL, ONE, THIRD, wrong))
            for at in range(5):
                self.refuse(InvalidNumbers, at, ask, (HALF,) * at + (None,) * (5 - at))

    def test_where_others_tell_the_count(self):
        asks = (lambda numbers: web_calls((HALF, HALF), ((NIL, NIL),) * 2, numbers, None),
                lambda numbers: apart_share((THIRD, HALF), (0,), numbers))
        for ask in asks:
            for value in NOT_ROWS:
                self.refuse(InvalidNumbers, None, ask, value)
            for wrong in NOT_NUMBERS + (None,):
                self.refuse(InvalidNumbers, 0, ask, (wrong, HALF))
                self.refuse(InvalidNumbers, 0, ask, (wrong, wrong))
                self.refuse(InvalidNumbers, 1, ask, (HALF, wrong))

    def test_0_and_1_are_let(self):
        for count in range(1, 6):
            for number in (NIL, ONE):
                step_down((number,) * count, (HALF,) * count)
                step_up((number,) * count, (HALF,) * count)
                hommel_number((number,) * count, HALF)
                ranked_count((number,) * count, HALF, (count - 1,))
                share((number,) * count, (HALF,) * count, (0,))
                apart_share((HALF,) * count, (0,), (number,) * count)


class OfLimits(Refusals):

    LEADING = (down_risk, up_risk, lambda limits: share_worths(limits, None),
               lambda limits: greatest_share(limits, None), lambda limits: apart_share(limits, None, None))
    BEHIND = (lambda limits: step_down((HALF, THIRD), limits), lambda limits: step_up((HALF, THIRD), limits),
              lambda limits: share((HALF, THIRD), limits, None))

    def test_where_they_tell_the_count(self):
        for ask in self.LEADING:
            for value in NOT_LEADING:
                self.refuse(InvalidLimits, None, ask, value)
            self.refuse(InvalidLimits, None, ask, [HALF, HALF])

    def test_where_numbers_tell_the_count(self):
        for ask in self.BEHIND:
            for value in NOT_ROWS + ([HALF, HALF],):
                self.refuse(InvalidLimits, None, ask, value)
        for count in range(1, 6):
            for other in range(0, 8):
                if other != count:
                    self.refuse(InvalidLimits, None, step_down, (HALF,) * count, (HALF,) * other)
                    self.refuse(InvalidLimits, None, step_up, (HALF,) * count, (None,) * other)
                    self.refuse(InvalidLimits, None, share, (HALF,) * count, (HALF,) * other, None)

    def test_an_element(self):
        for ask in self.LEADING + self.BEHIND:
            for wrong in NOT_BELOW_ONE:
                self.refuse(InvalidLimits, 0, ask, (wrong, HALF))
                self.refuse(InvalidLimits, 0, ask, (wrong, wrong))
                self.refuse(InvalidLimits, 1, ask, (HALF, wrong))
        for ask in self.LEADING:
            for wrong in NOT_BELOW_ONE:
                self.refuse(InvalidLimits, 0, ask, (wrong,))
                self.refuse(InvalidLimits, 4, ask, (NIL, NIL, THIRD, HALF, wrong))

    def test_one_below_the_one_before_it(self):
        below = pair(Fraction(1, 2) - Fraction(1, LONG))
        for ask in self.LEADING + self.BEHIND:
            self.refuse(InvalidLimits, 1, ask, (HALF, THIRD))
            self.refuse(InvalidLimits, 1, ask, (HALF, NIL))
            self.refuse(InvalidLimits, 1, ask, (HALF, below))
            self.refuse(InvalidLimits, 1, ask, ((2, 5), (3, 8)))
        for ask in self.LEADING:
            self.refuse(InvalidLimits, 2, ask, (NIL, HALF, THIRD, TENTH, NIL))
            self.refuse(InvalidLimits, 4, ask, (NIL, NIL, HALF, HALF, below))
            self.refuse(InvalidLimits, 1, ask, (HALF, THIRD, None))
            self.refuse(InvalidLimits, 2, ask, (THIRD, HALF, None, NIL))
            # 1 / 3 is above what stands before the element that is wrong, but not above 1 / 2.
            self.refuse(InvalidLimits, 1, ask, (HALF, NIL, THIRD))

    def test_what_is_let(self):
        just = pair(Fraction(1) - Fraction(1, LONG))
        for limits in ((NIL,), (just,), (NIL,) * 5, (just,) * 5, (NIL, (1, LONG), HALF, just), (HALF, HALF)):
            down_risk(limits)
            up_risk(limits)
            share_worths(limits, (0,))
            greatest_share(limits, (0,))
            apart_share(limits, (0,), (ONE,) * len(limits))
            step_down((HALF,) * len(limits), limits)
            step_up((HALF,) * len(limits), limits)
            share((HALF,) * len(limits), limits, (0,))


class OfWebs(Refusals):

    WEB = ((NIL, ONE), (HALF, NIL))

    def test_weights(self):
        for value in NOT_LEADING:
            self.refuse(InvalidWeights, None, web_calls, value, None, None, None)
        for wrong in NOT_WEIGHTS:
            self.refuse(InvalidWeights, 0, web_calls, (wrong, HALF), None, None, None)
            self.refuse(InvalidWeights, 0, web_calls, (wrong, wrong), self.WEB, None, None)
            self.refuse(InvalidWeights, 1, web_calls, (HALF, wrong), None, None, None)
            self.refuse(InvalidWeights, 1, web_calls, ((3, 2), wrong), None, None, None)

    def test_a_sum_above_1(self):
        for weights in ((HALF, (LONG + 1, 2 * LONG + 1)), (ONE, (1, LONG)), ((2, 1), NIL), (ONE, ONE)):
            self.refuse(InvalidWeights, None, web_calls, weights, None, None, None)
            self.refuse(InvalidWeights, None, web_calls, weights, self.WEB, (NIL, NIL), HALF)
        self.assertEqual(web_calls((HALF, HALF), self.WEB, (NIL, NIL), HALF), (0, 1))

    def test_web(self):
        for value in NOT_TUPLES + ((), ((NIL, NIL),), ((NIL, NIL),) * 3, [(NIL, NIL), (NIL, NIL)]):
            self.refuse(InvalidWeb, None, web_calls, (HALF, HALF), value, None, None)
        for wrong in NOT_WEB_ROWS:
            self.refuse(InvalidWeb, 1, web_calls, (HALF, HALF), ((NIL, HALF), wrong), None, None)
            turned = wrong[::-1] if type(wrong) is tuple else wrong
            self.refuse(InvalidWeb, 0, web_calls, (HALF, HALF), (turned, wrong), None, None)

    def test_in_the_order_of_the_signature(self):
        self.refuse(InvalidWeights, None, web_calls, degree=None, numbers=None, web=None, weights=None)
        self.refuse(InvalidWeb, None, web_calls, degree=None, numbers=None, web=None, weights=(NIL,))
        self.refuse(InvalidNumbers, None, web_calls, degree=None, numbers=None, web=((NIL,),), weights=(NIL,))
        self.refuse(InvalidNumbers, 0, web_calls, (NIL,), ((NIL,),), (None,), NIL)
        self.refuse(InvalidDegree, NIL, web_calls, (NIL,), ((NIL,),), (NIL,), NIL)


class OfDegreesAndSets(Refusals):

    def test_degree(self):
        asks = (lambda degree: web_calls((HALF, HALF), ((NIL, NIL),) * 2, (HALF, HALF), degree),
                lambda degree: hommel_number((HALF, HALF), degree),
                lambda degree: ranked_count((HALF, HALF), degree, (0,)))
        for ask in asks:
            for value in NOT_DEGREES:
                self.refuse(InvalidDegree, value, ask, value)
            for degree in (ONE, (1, LONG), (LONG - 1, LONG)):
                ask(degree)

    def test_group(self):
        for value in NOT_SETS:
            self.refuse(InvalidSet, value, ranked_count, (HALF, HALF), HALF, value)
        for group in ((0,), (1,), (0, 1)):
            ranked_count((HALF, HALF), HALF, group)
        self.refuse(InvalidSet, (2,), ranked_count, group=(2,), degree=ONE, numbers=(NIL, NIL))

    def test_lot(self):
        asks = (lambda lot: share((HALF, HALF), (THIRD, HALF), lot), lambda lot: share_worths((THIRD, HALF), lot),
                lambda lot: greatest_share((THIRD, HALF), lot), lambda lot: apart_share((THIRD, HALF), lot, None))
        for ask in asks:
            for value in NOT_SETS:
                self.refuse(InvalidSet, value, ask, value)
        for lot in ((0,), (1,), (0, 1)):
            for ask in asks[:3]:
                ask(lot)
        for count in range(1, 6):
            beyond = (count,)
            self.refuse(InvalidSet, beyond, share, (HALF,) * count, (HALF,) * count, beyond)
            self.refuse(InvalidSet, beyond, share_worths, (HALF,) * count, beyond)
            self.refuse(InvalidSet, beyond, greatest_share, (HALF,) * count, beyond)
            self.refuse(InvalidSet, beyond, apart_share, (HALF,) * count, beyond, (HALF,) * count)
            self.refuse(InvalidSet, beyond, ranked_count, (HALF,) * count, HALF, beyond)

    def test_in_the_order_of_the_signature(self):
        for ask in (step_down, step_up):
            self.refuse(InvalidNumbers, None, ask, limits=None, numbers=None)
            self.refuse(InvalidNumbers, 0, ask, (None, HALF), None)
            self.refuse(InvalidLimits, None, ask, limits=None, numbers=(HALF,))
        self.refuse(InvalidNumbers, None, hommel_number, degree=None, numbers=())
        self.refuse(InvalidDegree, None, hommel_number, degree=None, numbers=(HALF,))
        self.refuse(InvalidNumbers, 1, ranked_count, (HALF, None), None, None)
        self.refuse(InvalidDegree, NIL, ranked_count, group=None, degree=NIL, numbers=(HALF,))
        self.refuse(InvalidNumbers, None, share, lot=None, limits=None, numbers=None)
        self.refuse(InvalidLimits, 1, share, (HALF, HALF), (HALF, NIL), None)
        self.refuse(InvalidLimits, None, share_worths, lot=None, limits=())
        self.refuse(InvalidLimits, 0, greatest_share, lot=(), limits=(ONE,))
        self.refuse(InvalidLimits, None, apart_share, numbers=None, lot=None, limits=None)
        self.refuse(InvalidSet, (), apart_share, numbers=None, lot=(), limits=(HALF,))
        self.refuse(InvalidNumbers, None, apart_share, numbers=None, lot=(0,), limits=(HALF,))


class OfCertificates(Refusals):

    FULL = full_frame(2)
    BARS = ((certify_sure, 4), (certify_never_less, 2), (certify_consonant, 1), (certify_coherent, 1))

    def test_count(self):
        for value in NOT_COUNTS:
            self.refuse(InvalidCount, value, certify_chance, value, None, None)
            self.refuse(InvalidCount, value, certify_mean, value, (), ONE)

    def test_corners_and_worths(self):
        self.refuse_row(InvalidCorners, lambda each: certify_chance(2, each, HALF), (HALF, None), NOT_CORNERS, 60)
        right = ((HALF, None), (3, 2))
        self.refuse_row(InvalidWorths, lambda each: certify_mean(2, each, HALF), right, NOT_WORTHS, 60)

    def test_fraction(self):
        asks = (lambda each: certify_chance(2, ((HALF, None),), each), lambda each: certify_risk(self.FULL, (), each),
                lambda each: certify_mean(2, (((HALF, None), ONE),), each))
        for ask in asks:
            for value in NOT_FRACTIONS + (None, Odd(), nested(14)):
                self.refuse(InvalidFraction, value, ask, value)
            for value in (NIL, ONE, (-1, 2), (-LONG, 1), (LONG, LONG - 1), (7, 3)):
                ask(value)

    def test_frame(self):
        for value in NOT_FRAMES:
            self.refuse(InvalidFrame, value, certify_risk, value, None, None)
            for ask, more in self.BARS:
                self.refuse(InvalidFrame, value, ask, value, *[None] * more)

    def test_book(self):
        right = ((0, 1), 2, (HALF, None))
        self.refuse_row(InvalidBook, lambda each: certify_risk(self.FULL, each, HALF), right, NOT_SAYINGS, 60)

    def test_bars(self):
        numbers = (HALF, HALF)
        asks = (lambda bars: certify_sure(self.FULL, bars, numbers, (0,), 1),
                lambda bars: certify_never_less(self.FULL, bars, ()),
                lambda bars: certify_never_less(self.FULL, (), bars),
                lambda bars: certify_consonant(self.FULL, bars), lambda bars: certify_coherent(self.FULL, bars))
        for ask in asks:
            for value in NOT_TUPLES + ([RIGHT],):
                self.refuse(InvalidBars, None, ask, value)
            for wrong in NOT_BARS:
                self.refuse(InvalidBars, 0, ask, (wrong,))
                self.refuse(InvalidBars, 1, ask, (RIGHT, wrong, wrong))
            ask((RIGHT,) * 60)
            self.refuse(InvalidBars, 60, ask, (RIGHT,) * 61)
            self.refuse(InvalidBars, 61, ask, (((0,), (HALF, None)),) + (RIGHT,) * 61)

    def test_numbers_group_and_number(self):
        for value in NOT_ROWS:
            self.refuse(InvalidNumbers, None, certify_sure, self.FULL, (RIGHT,), value, None, None)
        for wrong in NOT_NUMBERS + (None,):
            self.refuse(InvalidNumbers, 1, certify_sure, self.FULL, (RIGHT,), (HALF, wrong), (0,), 1)
        for value in NOT_SETS:
            self.refuse(InvalidSet, value, certify_sure, self.FULL, (RIGHT,), (HALF, HALF), value, None)
        for group, wrongs in (((0,), (0, 2, -1, LONG)), ((0, 1), (0, 3, -2))):
            for value in NOT_WHOLE + wrongs:
                self.refuse(InvalidNumber, value, certify_sure, self.FULL, (RIGHT,), (HALF, HALF), group, value)
        # A group need not be a lot.
        certify_sure((2, ((0, 1),)), (), (HALF, HALF), (0,), 1)

    def test_in_the_order_of_the_signature(self):
        self.refuse(InvalidCount, 0, certify_chance, fraction=None, corners=None, count=0)
        self.refuse(InvalidCorners, None, certify_chance, fraction=None, corners=None, count=1)
        self.refuse(InvalidCorners, 1, certify_chance, 1, ((HALF,), None), None)
        self.refuse(InvalidCount, 6, certify_mean, fraction=None, worths=None, count=6)
        self.refuse(InvalidWorths, 0, certify_mean, fraction=None, worths=(None,), count=1)
        self.refuse(InvalidFrame, None, certify_risk, fraction=None, book=None, frame=None)
        self.refuse(InvalidBook, None, certify_risk, fraction=None, book=None, frame=self.FULL)
        self.refuse(InvalidFrame, None, certify_sure, number=None, group=None, numbers=None, bars=None, frame=None)
        self.refuse(InvalidBars, None, certify_sure, number=None, group=None, numbers=None, bars=None, frame=self.FULL)
        self.refuse(InvalidNumbers, 0, certify_sure, self.FULL, (), (None, None), None, None)
        self.refuse(InvalidSet, (), certify_sure, self.FULL, (), (HALF, HALF), (), 0)
        self.refuse(InvalidFrame, None, certify_never_less, other=None, bars=None, frame=None)
        self.refuse(InvalidBars, 0, certify_never_less, other=None, bars=(None,), frame=self.FULL)
        self.refuse(InvalidBars, 1, certify_never_less, other=(RIGHT, None), bars=(RIGHT,) * 60, frame=self.FULL)
        self.refuse(InvalidFrame, None, certify_consonant, bars=None, frame=None)
        self.refuse(InvalidFrame, None, certify_coherent, bars=None, frame=None)

    def test_too_many_comes_last(self):
        # 16 to the third are 4096.
        lot = (0, 1, 2)
        wide = tuple((lot, (pair(at, 15),) * 3) for at in range(15))
        more = wide + ((lot, ((1, 40), None, None)),)
        frame = (3, (lot,))
        certify_never_less(frame, wide, wide)
        certify_consonant(frame, wide)
        cells = 17 * 16 * 16
        self.refuse(TooMany, cells, certify_never_less, frame, more, ())
        self.refuse(TooMany, cells, certify_never_less, frame, (), more)
        self.refuse(TooMany, cells, certify_never_less, frame, wide, more[-1:])
        self.refuse(TooMany, cells, certify_never_less, (3, ((0,),)), more, more)
        self.refuse(TooMany, cells, certify_consonant, frame, more)
        self.refuse(TooMany, cells, certify_consonant, full_frame(3), more)
        self.refuse(InvalidFrame, None, certify_never_less, None, more, more)
        self.refuse(InvalidBars, 16, certify_never_less, frame, more + (None,), ())
        self.refuse(InvalidBars, None, certify_never_less, frame, more, None)
        self.refuse(InvalidBars, 0, certify_never_less, frame, more, (None,))
        self.refuse(InvalidBars, 16, certify_consonant, frame, more + (None,))
        # The others know no cells.
        self.assertEqual(certify_coherent(full_frame(3), more)[0][0], "coherent")
        self.assertEqual(certify_sure(frame, more, (HALF,) * 3, lot, 3)[0][0], "sure")
