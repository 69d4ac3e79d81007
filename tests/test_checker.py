"""The checker: what it accepts, what it does not, and that it takes any value."""

import random
import unittest
from fractions import Fraction
from itertools import product

from surefinds.bars import bars_of, bars_risk, is_coherent
from surefinds.books import risk, wrong_corners
from surefinds.chances import (greatest_chance, greatest_mean, masses, prices, worth_masses, worth_prices)
from surefinds.checker import accepts
from surefinds.closed import is_consonant, never_less, parting, quiet_numbers
from surefinds.frames import full_frame
from surefinds.named import ranked_bars, weighed_bars
from tests.plain_claims import KINDS, OPPOSITE, PAIRS, plain_accepts
from tests.support import (ODD_VALUES, ONE, Odd, drawn_bars, drawn_book, drawn_corners, drawn_fraction, drawn_frame,
                           drawn_number, drawn_numbers, drawn_worths, nested, pair, plain_sure, subsets, whole_of)

NIL, HALF, THIRD, QUARTER, TENTH, SCORE = (0, 1), (1, 2), (1, 3), (1, 4), (1, 10), (1, 20)
LONG = 10 ** 399
FULL = full_frame(2)

LONE = ((TENTH, None), (None, TENTH))
WORTHS = (((SCORE, None), ONE), ((TENTH, TENTH), HALF))
BOOK = (((0,), 1, (QUARTER, None)), ((0, 1), 1, (HALF, QUARTER)), ((0, 1), 2, (TENTH, TENTH)))
STRONG = (((0,), (HALF, None)), ((0, 1), (QUARTER, None)), ((0, 1), (None, QUARTER)), ((1,), (None, HALF)))
WEAK = (((0,), (QUARTER, None)), ((0, 1), (QUARTER, None)), ((0, 1), (None, QUARTER)), ((1,), (None, QUARTER)))
JOINT = (((0, 1), (HALF, HALF)),)
FREE = (NIL, ())

# Each of them is so; the papers are written by hand.
RIGHT = (
    (("chance up to", 2, LONE, (1, 5)), (NIL, ((0, TENTH, ONE), (1, TENTH, ONE)))),
    (("chance above", 2, LONE, (3, 20)), (TENTH, (7, 100))),
    (("mean up to", 2, WORTHS, TENTH), (NIL, ((0, SCORE, ONE), (1, TENTH, HALF)))),
    (("mean above", 2, WORTHS, (7, 100)), ((1, 20), (1, 20))),
    (("risk up to", FULL, BOOK, (3, 5)), ((NIL, ((0, HALF, ONE),)), (NIL, ((0, QUARTER, ONE), (1, QUARTER, ONE))),
                                          (TENTH, ((1, HALF, ONE),)))),
    (("risk above", FULL, BOOK, (2, 5)), ((0, 1), (QUARTER, (9, 40), NIL))),
    (("sure", FULL, WEAK, ((1, 5), HALF), (0, 1), 1), ()),
    (("not sure", FULL, WEAK, ((1, 5), HALF), (0, 1), 2), (1,)),
    (("never less", FULL, STRONG, WEAK), ()),
    (("less", FULL, WEAK, STRONG), (((1, 5), (2, 5)), (1,))),
    (("consonant", FULL, STRONG), ()),
    (("quiet", FULL, JOINT), (THIRD, HALF)),
    (("coherent", FULL, WEAK), ()),
    (("split", FULL, STRONG), ((0,), (0, 1), ((2, 5), HALF))),
)


def bends(value):
    """All that a value is bent to at one place, or instead of which something else stands."""
    yield from (None, Odd(), [value], (value,))
    if type(value) is int:
        yield from (value + 1, value - 1, -value, str(value), value == 1, value + LONG)
    elif type(value) is str:
        yield from (value + " ", value.upper(), value[1:], value.encode(), [value], OPPOSITE[value], "")
    elif type(value) is tuple:
        yield from (list(value), value[:-1], value[1:], value[::-1], value + value[-1:], value + (None,), ((),) + value,
                    dict(enumerate(value)), value[:1] + value)
        if len(value) == 2 and all(type(each) is int for each in value):
            top, bottom = value
            yield from ((2 * top, 2 * bottom), (-top, -bottom), (-top, bottom), (top, 0), pair(top + bottom, bottom),
                        pair(top * 3, bottom * 2), pair(top * 2, bottom * 3), NIL, ONE, (True, bottom))
        for at, each in enumerate(value):
            for other in bends(each):
                yield value[:at] + (other,) + value[at + 1:]


class Looks(unittest.TestCase):

    def look(self, claim, paper):
        """What is told, after a look at whether it is right."""
        told = accepts(claim, paper)
        self.assertIs(told, plain_accepts(claim, paper), (claim, paper))
        return told


class Accepts(Looks):

    def test_there_is_one_of_each(self):
        self.assertEqual([claim[0] for claim, _ in RIGHT], list(KINDS))

    def test_what_is_right(self):
        for claim, paper in RIGHT:
            self.assertIs(self.look(claim, paper), True)
            self.assertIs(accepts(paper=paper, claim=claim), True)

    def test_the_opposite(self):
        for claim, paper in RIGHT:
            opposite = (OPPOSITE[claim[0]],) + claim[1:]
            for _, other in RIGHT:
                self.assertIs(self.look(opposite, other), False)

    def test_papers_of_other_claims(self):
        for claim, paper in RIGHT:
            for other_claim, other in RIGHT:
                self.assertTrue(self.look(claim, other) or other != paper)

    def test_bent_papers(self):
        accepted = 0
        for claim, paper in RIGHT:
            for bent in bends(paper):
                accepted += self.look(claim, bent)
        self.assertGreater(accepted, 15)

    def test_bent_claims(self):
        accepted = 0
        for claim, paper in RIGHT:
            for bent in bends(claim):
                accepted += self.look(bent, paper)
        self.assertGreater(accepted, 15)

    def test_any_values(self):
        values = ODD_VALUES + (1, 0, (), (None,), ("",), ("sure",), ([],), ({},), (Odd(),), (set(),), nested(14),
                               "surely", list(RIGHT[0][0]), RIGHT[0][0][:1], FULL, STRONG)
        for value, other in product(values, repeat=2):
            self.assertIs(accepts(value, other), False)
        for claim, paper in RIGHT:
            for value in values:
                self.assertIs(self.look(claim, value), value == () and paper == () if type(value) is tuple else False)
                self.assertIs(accepts(value, paper), False)
                self.assertIs(accepts((value,) + claim[1:], paper), False)
                self.assertIs(accepts(claim[:1] + (value,), paper), False)
                for at in range(1, len(claim)):
                    self.look(claim[:at] + (value,) + claim[at + 1:], paper)

    def test_texts(self):
        for claim, paper in RIGHT:
            for word in ("Sure", "unsure", "sure ", "up to", "chance", "mean", "risk", "surely", "__len__", ""):
                self.assertIs(accepts((word,) + claim[1:], paper), False)
            for other in KINDS:
                if other != claim[0]:
                    self.look((other,) + claim[1:], paper)


def just(fraction, more):
    return pair(whole_of(fraction) + more)


class Chances(Looks):

    def test_fractions(self):
        claim, paper = RIGHT[0]
        for fraction, told in (((1, 5), True), (ONE, True), ((7, 2), True), (just((1, 5), Fraction(1, LONG)), True),
                               (just((1, 5), -Fraction(1, LONG)), False), (NIL, False), ((-1, 5), False)):
            self.assertIs(self.look(claim[:3] + (fraction,), paper), told)
        claim, paper = RIGHT[1]
        for fraction, told in (((17, 100), False), (just((17, 100), -Fraction(1, LONG)), True), (NIL, True),
                               ((-3, 1), True), ((1, 5), False), (ONE, False)):
            self.assertIs(self.look(claim[:3] + (fraction,), paper), told)

    def test_no_corners(self):
        for fraction, up, above in ((NIL, True, False), (HALF, True, False), ((-1, 2), False, True)):
            self.assertIs(self.look(("chance up to", 2, (), fraction), FREE), up)
            self.assertIs(self.look(("chance above", 2, (), fraction), ()), above)
            self.assertIs(self.look(("mean up to", 2, (), fraction), FREE), up)
            self.assertIs(self.look(("mean above", 2, (), fraction), ()), above)

    def test_masses(self):
        claim = ("chance above", 2, ((TENTH, None), (None, TENTH), (HALF, (1, 5)), (None, None)), THIRD)
        for found, told in (
                ((TENTH, TENTH, TENTH, ONE), False), ((TENTH, TENTH, TENTH, HALF), True), ((NIL, NIL, NIL, ONE), True),
                ((TENTH, TENTH, TENTH, (7, 10)), True), ((TENTH, TENTH, TENTH, (71, 100)), False),
                ((NIL, TENTH, TENTH, HALF), True), ((NIL, TENTH, (101, 1000), HALF), False),
                ((TENTH, NIL, (1, 5), HALF), True), (((11, 100), NIL, NIL, HALF), False),
                ((NIL, NIL, NIL, THIRD), False), ((NIL, NIL, NIL, just(THIRD, Fraction(1, LONG))), True),
                ((NIL, NIL, (-1, 10), HALF), False), ((TENTH, TENTH, TENTH), False),
                ((TENTH, TENTH, TENTH, HALF, NIL), False)):
            self.assertIs(self.look(claim, found), told)

    def test_like_limits_add_up(self):
        claim = ("chance above", 1, ((HALF,), (HALF,), (THIRD,)), TENTH)
        for found, told in (((QUARTER, QUARTER, NIL), True), ((QUARTER, QUARTER, TENTH), False),
                            ((NIL, (1, 6), THIRD), True), ((NIL, NIL, HALF), False), ((HALF, NIL, NIL), True)):
            self.assertIs(self.look(claim, found), told)

    def test_limits_of_0_and_1(self):
        claim = ("chance above", 2, ((NIL, None), (ONE, NIL), (ONE, ONE)), HALF)
        for found, told in (((NIL, NIL, ONE), True), ((TENTH, NIL, HALF), False), ((NIL, TENTH, HALF), False)):
            self.assertIs(self.look(claim, found), told)

    def test_prices(self):
        claim = ("chance up to", 2, LONE, HALF)
        half = ((0, TENTH, ONE),)
        for found, told in (
                ((NIL, half + ((1, TENTH, ONE),)), True), ((NIL, half), False), ((ONE, ()), False),
                ((NIL, half + ((1, (11, 100), ONE),)), True), ((NIL, half + ((1, (9, 100), ONE),)), False),
                ((NIL, half + ((1, TENTH, HALF), (1, (1, 5), HALF))), True),
                ((NIL, half + ((1, (1, 5), HALF), (1, TENTH, HALF))), False),
                ((NIL, half + ((1, TENTH, HALF), (1, TENTH, HALF))), False),
                ((NIL, ((1, TENTH, ONE),) + half), False), ((NIL, half + ((1, NIL, ONE), (1, TENTH, ONE))), True),
                ((NIL, half + ((1, NIL, ONE),)), False), ((NIL, half + ((1, TENTH, (99, 100)),)), False),
                (((1, 100), ((0, TENTH, (99, 100)), (1, TENTH, (99, 100)))), True),
                ((HALF, ((0, TENTH, HALF), (1, TENTH, HALF))), False), ((NIL, half + ((2, TENTH, ONE),)), False),
                ((NIL, half + ((1, TENTH, NIL),)), False), ((NIL, half + ((1, TENTH, (-1, 1)),)), False),
                ((NIL, half + ((1, TENTH, ONE), (1, HALF, NIL))), False),
                ((NIL, half + ((1, TENTH, ONE), (1, ONE, NIL))), False),
                ((NIL, half + ((1, TENTH, ONE), (1, HALF, (1, LONG)))), True),
                ((NIL, half + ((1, TENTH, (2, 1)), (1, HALF, (-1, 1)))), False),
                ((NIL, half + ((1, SCORE, (-1, 1)), (1, TENTH, ONE))), False),
                ((NIL, half + ((1, SCORE, (1, LONG)), (1, TENTH, ONE))), True),
                ((NIL, half + ((1, (3, 2), ONE),)), False), ((NIL, half + ((1, (-1, 2), ONE),)), False),
                ((NIL, half + ((1, TENTH, ONE), (1, (3, 2), TENTH))), False),
                ((NIL, ((0, (-1, 2), ONE),) + half + ((1, TENTH, ONE),)), False),
                ((NIL, half + ((1, TENTH, ONE, 0),)), False), ((NIL, half + ((1, TENTH),)), False),
                (((-1, 10), ((0, TENTH, (2, 1)), (1, TENTH, (2, 1)))), False),
                ((NIL, half + ((True, TENTH, ONE),)), False), ((NIL, ((-1, TENTH, ONE),) + half), False)):
            self.assertIs(self.look(claim, found), told)
        self.assertIs(self.look(claim[:3] + (ONE,), (ONE, ())), True)

    def test_prices_that_would_bar_for_less(self):
        # A price below 0 that no corner pays, and a limit below 0, would make the sum as small as one likes.
        claim = ("chance up to", 2, LONE, SCORE)
        for more in ((0, SCORE, (-2, 1)), (0, (-3, 2), TENTH), (0, NIL, (-1, 1)), (0, (1, -20), (2, 1))):
            triples = (more, (0, TENTH, ONE), (1, TENTH, ONE))
            self.assertIs(self.look(claim, (NIL, triples)), False)
        self.assertIs(self.look(claim, ((-3, 20), ((0, TENTH, (23, 20)), (1, TENTH, (23, 20))))), False)
        self.assertIs(self.look(("chance above", 2, LONE, (1, 4)), ((3, 10), (-1, 20))), False)
        self.assertIs(self.look(("chance above", 2, ((TENTH, None), (TENTH, None)), (1, 9)), ((3, 10), (-1, 5))), False)

    def test_no_limit_is_not_paid_for(self):
        # A price for the limit 1 is paid by a corner with the limit 1, not by one without a limit.
        for limit, told in ((ONE, True), ((99, 100), True), (None, False)):
            self.assertIs(self.look(("chance up to", 1, ((limit,),), ONE), (NIL, ((0, ONE, ONE),))), told)
        self.assertIs(self.look(("chance up to", 1, ((None,),), ONE), (ONE, ())), True)

    def test_many_triples(self):
        triples = tuple((at // 130, pair(at % 130, 129), (1, 130)) for at in range(260))
        self.assertIs(self.look(("chance up to", 2, LONE, (3, 2)), (NIL, triples)), False)
        told = ("chance up to", 2, ((NIL, None), (None, NIL)), ONE)
        self.assertIs(self.look(told, (NIL, triples)), True)
        self.assertIs(self.look(told, (NIL, triples[1:])), False)
        self.assertIs(self.look(told, ((1, 130), triples[1:])), False)

    def test_means_above_1(self):
        worths = (((HALF, None), (7, 2)), ((None, HALF), (3, 1)))
        self.assertEqual(greatest_mean(2, worths), (13, 4))
        just_so, with_base = ((0, HALF, (7, 2)), (1, HALF, (3, 1))), ((0, HALF, (3, 1)), (1, HALF, (5, 2)))
        self.assertIs(self.look(("mean up to", 2, worths, (13, 4)), (NIL, just_so)), True)
        self.assertIs(self.look(("mean up to", 2, worths, (3, 1)), (NIL, just_so)), False)
        self.assertIs(self.look(("mean up to", 2, worths, (13, 4)), (HALF, with_base)), True)
        self.assertIs(self.look(("mean up to", 2, worths, (4, 1)), (QUARTER, with_base)), False)
        self.assertIs(self.look(("mean above", 2, worths, (3, 1)), (HALF, HALF)), True)
        self.assertIs(self.look(("mean above", 2, worths, (13, 4)), (HALF, HALF)), False)
        self.assertIs(self.look(("mean above", 2, worths, NIL), (ONE, NIL)), False)

    def test_60_and_61(self):
        corners, worths = (LONE[0],) * 60, (WORTHS[0],) * 60
        self.assertIs(self.look(("chance up to", 2, corners, ONE), (ONE, ())), True)
        self.assertIs(self.look(("chance up to", 2, corners + LONE[:1], ONE), (ONE, ())), False)
        self.assertIs(self.look(("mean up to", 2, worths, ONE), (ONE, ())), True)
        self.assertIs(self.look(("mean up to", 2, worths + WORTHS[:1], ONE), (ONE, ())), False)
        thin = ((1, 600),) * 61
        self.assertIs(self.look(("chance above", 2, corners, (99, 1000)), thin[:60]), True)
        self.assertIs(self.look(("chance above", 2, corners + LONE[:1], (99, 1000)), (NIL,) + thin[:60]), False)
        self.assertIs(self.look(("mean above", 2, worths, (1, 200)), ((1, 1200),) * 60), True)
        self.assertIs(self.look(("mean above", 2, worths + WORTHS[:1], (1, 200)), ((1, 1300),) * 61), False)

    def test_drawn_papers(self):
        draw = random.Random(1)
        found = {}
        for _ in range(600):
            count = draw.randint(1, 4)
            corners = drawn_corners(draw, count, draw.randint(0, 6), 8, 0.3)
            worths = drawn_worths(draw, corners, 6)
            pick = draw.choice((0, 2))
            if pick == 0:
                parts, fitting, barring = (count, corners), masses(count, corners), prices(count, corners)
                told = greatest_chance(count, corners)
            else:
                parts, fitting, barring = (count, worths), worth_masses(count, worths), worth_prices(count, worths)
                told = greatest_mean(count, worths)
            fraction = just(told, draw.choice((0, 0, Fraction(1, 40), Fraction(-1, 40))))
            fitting = self.swayed(draw, fitting)
            base, triples = barring
            barring = (self.swayed(draw, (base,))[0], tuple(
                (at, limit, price) for (at, limit, _), price in zip(
                    triples, self.swayed(draw, tuple(price for _, _, price in triples))) if price[0] > 0))
            up, above = PAIRS[pick // 2]
            ups = self.look((up,) + parts + (fraction,), barring)
            aboves = self.look((above,) + parts + (fraction,), fitting)
            self.assertTrue(not ups or whole_of(told) <= whole_of(fraction))
            self.assertTrue(not aboves or whole_of(told) > whole_of(fraction))
            found[pick, ups, aboves] = found.get((pick, ups, aboves), 0) + 1
        self.assertGreater(min(found.get(each, 0) for each in product((0, 2), (True, False), (True, False))
                               if each[1:] != (True, True)), 30)

    def swayed(self, draw, fractions):
        """The fractions, now and then with some of them changed a little."""
        if draw.random() < 0.5:
            return fractions
        return tuple(just(each, draw.choice((0, Fraction(1, 60), -whole_of(each) / 9))) for each in fractions)


class Risks(Looks):

    def test_fractions(self):
        claim, paper = RIGHT[4]
        for fraction, told in (((3, 5), True), (just((3, 5), -Fraction(1, LONG)), False), (ONE, True), ((9, 4), True)):
            self.assertIs(self.look(claim[:3] + (fraction,), paper), told)
        claim, paper = RIGHT[5]
        for fraction, told in (((19, 40), False), (just((19, 40), -Fraction(1, LONG)), True), ((-1, 2), True)):
            self.assertIs(self.look(claim[:3] + (fraction,), paper), told)

    def test_each_lot_has_its_own_prices(self):
        claim, paper = RIGHT[4]
        for at in range(3):
            self.assertIs(self.look(claim, paper[:at] + (FREE,) + paper[at + 1:]), False)
            self.assertIs(self.look(claim, paper[:at] + ((ONE, ()),) + paper[at + 1:]), False)
        self.assertIs(self.look(claim[:3] + (ONE,), ((ONE, ()),) * 3), True)
        self.assertIs(self.look(claim[:3] + (ONE,), ((ONE, ()),) * 2), False)
        self.assertIs(self.look(claim[:3] + (ONE,), ((ONE, ()),) * 4), False)

    def test_lots_without_wrong_corners(self):
        frame, book = (2, ((0,), (1,))), (((0,), 1, (TENTH, None)),)
        claim = ("risk up to", frame, book, TENTH)
        first = (NIL, ((0, TENTH, ONE),))
        for other, told in ((FREE, True), (((1, 20), ()), True), ((NIL, ((1, TENTH, HALF),)), True), ((), False),
                            ((HALF, ()), False), ((NIL, ((1, HALF, HALF),)), False),
                            ((NIL, ((2, TENTH, HALF),)), False)):
            self.assertIs(self.look(claim, (first, other)), told)
        self.assertIs(self.look(("risk above", frame, book, (-1, 9)), ((1,), ())), True)
        self.assertIs(self.look(("risk above", frame, book, NIL), ((1,), ())), False)
        self.assertIs(self.look(("risk above", frame, book, (-1, 9)), ((0,), (NIL,))), True)
        self.assertIs(self.look(("risk above", frame, book, (-1, 9)), ((0, 1), (NIL,))), False)
        self.assertIs(self.look(("risk above", frame, (), (-1, 9)), ((0,), ())), True)
        self.assertIs(self.look(("risk up to", frame, (), NIL), (FREE, FREE)), True)

    def test_corners_are_cut(self):
        frame, book = (2, ((0,), (0, 1))), (((0, 1), 2, (HALF, TENTH)),)
        self.assertIs(self.look(("risk above", frame, book, TENTH), ((0,), (HALF,))), True)
        self.assertIs(self.look(("risk above", frame, book, TENTH), ((0, 1), (HALF,))), False)
        self.assertIs(self.look(("risk up to", frame, book, HALF), ((NIL, ((0, HALF, ONE),)),) * 2), True)
        self.assertIs(self.look(("risk up to", frame, book, HALF), ((NIL, ((1, TENTH, ONE),)),) * 2), False)

    def test_60_and_61(self):
        paper = ((ONE, ()),) * 3
        self.assertIs(self.look(("risk up to", FULL, BOOK * 20, ONE), paper), True)
        self.assertIs(self.look(("risk up to", FULL, BOOK * 20 + BOOK[:1], ONE), paper), False)
        thin = ((1, 300),) * 60
        self.assertIs(self.look(("risk above", FULL, BOOK[:1] * 60, (1, 6)), ((0, 1), thin)), True)
        self.assertIs(self.look(("risk above", FULL, BOOK[:1] * 61, (1, 6)), ((0, 1), thin + (NIL,))), False)

    def test_drawn(self):
        draw = random.Random(2)
        for _ in range(120):
            count = draw.randint(1, 4)
            frame, book = drawn_frame(draw, count), drawn_book(draw, count, draw.choice((0, 2, 5)))
            told = whole_of(risk(frame, book))
            rows = {lot: wrong_corners(frame, book, lot) for lot in frame[1]}
            barring = tuple(prices(count, rows[lot]) for lot in frame[1])
            for fraction in (told, told + Fraction(1, 30), told - Fraction(1, 30)):
                self.assertIs(self.look(("risk up to", frame, book, pair(fraction)), barring), fraction >= told)
                reached = [self.look(("risk above", frame, book, pair(fraction)), (lot, masses(count, rows[lot])))
                           for lot in frame[1]]
                self.assertIs(any(reached), fraction < told)
                at = draw.randrange(len(barring))
                self.look(("risk up to", frame, book, pair(fraction)), barring[:at] + (FREE,) + barring[at + 1:])


class Bars(Looks):

    def test_sure(self):
        numbers = ((1, 5), HALF)
        for group, number in (((0,), 1), ((1,), 1), ((0, 1), 1), ((0, 1), 2)):
            for bars in (WEAK, STRONG, JOINT, ()):
                sure = plain_sure(FULL, bars, numbers, group) >= number
                self.assertIs(self.look(("sure", FULL, bars, numbers, group, number), ()), sure)
                shown = [self.look(("not sure", FULL, bars, numbers, group, number), lot)
                         for lot in ((), (0,), (0, 1), (1,), (2,), (1, 0))]
                self.assertIs(any(shown), not sure)

    def test_the_number_is_bounded(self):
        for number in (0, -1, 3, True, None):
            self.assertIs(self.look(("sure", FULL, STRONG, (NIL, NIL), (0, 1), number), ()), False)
            self.assertIs(self.look(("not sure", FULL, (), (ONE, ONE), (0, 1), number), (0, 1)), False)
        self.assertIs(self.look(("sure", FULL, STRONG, (NIL, NIL), (0, 1), 2), ()), True)
        self.assertIs(self.look(("not sure", FULL, (), (ONE, ONE), (0, 1), 2), (0, 1)), True)
        self.assertIs(self.look(("not sure", FULL, (), (ONE, ONE), (0, 1), 1), (0, 1)), True)
        self.assertIs(self.look(("not sure", FULL, (), (ONE, ONE), (0, 1), 1), (0,)), False)

    def test_lots_that_are_not_possible(self):
        frame = (2, ((0,), (0, 1)))
        claim = ("not sure", frame, (((0, 1), (HALF, None)),), (HALF, ONE), (0,), 1)
        self.assertIs(self.look(claim, (0,)), True)
        self.assertIs(self.look(claim, (0, 1)), False)
        self.assertIs(self.look(("not sure", frame, (), (HALF, ONE), (1,), 1), (1,)), False)

    def test_a_set_of_all_that_is_no_lot(self):
        frame = (2, ((0,), (1,)))
        self.assertIs(self.look(("sure", frame, (), (ONE, ONE), (0, 1), 1), ()), True)
        self.assertIs(self.look(("sure", frame, (), (ONE, ONE), (0, 1), 2), ()), False)
        self.assertIs(self.look(("quiet", frame, ()), (ONE, ONE)), True)

    def test_less(self):
        claim = ("less", FULL, WEAK, STRONG)
        for paper, told in (((((1, 5), (2, 5)), (1,)), True), ((((1, 5), (2, 5)), (0, 1)), True),
                            ((((1, 5), (2, 5)), (0,)), False), ((((1, 5), (51, 100)), (1,)), False),
                            ((((1, 5), HALF), (1,)), True), (((ONE, (2, 5)), (1,)), False)):
            self.assertIs(self.look(claim, paper), told)
        self.assertIs(self.look(("less", FULL, STRONG, WEAK), RIGHT[9][1]), False)

    def test_split(self):
        claim = ("split", FULL, STRONG)
        for paper, told in (
                (((0,), (0, 1), ((2, 5), HALF)), True), (((0,), (0, 1), (QUARTER, HALF)), False),
                (((0,), (0, 1), (HALF, HALF)), True), (((0,), (0, 1), ((51, 100), HALF)), False),
                (((0, 1), (0,), (QUARTER, ONE)), False), (((0, 1), (1,), (QUARTER, ONE)), False),
                (((1,), (0, 1), (ONE, HALF)), True), (((0,), (0,), (HALF, ONE)), False),
                (((0,), (1,), (HALF, ONE)), False), (((), (0, 1), (HALF, ONE)), False)):
            self.assertIs(self.look(claim, paper), told)
        # Sets that are no lots, on either side.
        self.assertIs(self.look(("split", (2, ((0, 1), (1,))), STRONG), ((0,), (0, 1), (HALF, HALF))), False)
        self.assertIs(self.look(("split", (2, ((0,), (1,))), STRONG), ((0,), (0, 1), (HALF, HALF))), False)
        self.assertIs(self.look(("coherent", (2, ((0,), (1,))), STRONG), ()), True)

    def test_240_and_241(self):
        lots = subsets(range(3))[:4]
        frame = (3, tuple(lots))
        wide = tuple((lot, (None, None, None)) for lot in lots * 60)
        more = wide + (((1,), (None, None, None)),)
        numbers = (HALF,) * 3
        for bars, told in ((wide, True), (more, False)):
            self.assertIs(self.look(("sure", frame, bars, numbers, (0, 1, 2), 3), ()), told)
            self.assertIs(self.look(("not sure", full_frame(3), bars, numbers, (1,), 1), (1, 2)), told)
            self.assertIs(self.look(("never less", frame, bars, ()), ()), told)
            self.assertIs(self.look(("never less", (3, ((1, 2),)), (), bars), ()), told)
            self.assertIs(self.look(("less", frame, (), bars), (numbers, (0,))), told)
            self.assertIs(self.look(("less", (3, ((1, 2),)), bars, (((1, 2), (None, HALF, None)),)),
                                    (numbers, (1,))), told)
            self.assertIs(self.look(("consonant", frame, bars), ()), told)
            self.assertIs(self.look(("coherent", frame, bars), ()), told)
            self.assertIs(self.look(("quiet", (3, ((0,), (1, 2))), bars[1:]), numbers), False)
            self.assertIs(self.look(("split", (3, ((0,), (0, 1, 2), (0, 2), (1, 2))), tuple(
                bar for bar in bars if bar[0] != (0, 2)) + bars[:0]), ((0,), (0, 2), numbers)), True)
            self.assertIs(self.look(("split", (3, ((0,), (0, 1, 2), (0, 2), (2,))), bars), ((0,), (0, 2), numbers)),
                          False)

    def test_61_of_one_lot(self):
        for many, told in ((60, True), (61, False)):
            bars = (((0,), (HALF, None)),) * many
            self.assertIs(self.look(("sure", (2, ((0,),)), bars, (HALF, ONE), (0,), 1), ()), told)
            self.assertIs(self.look(("never less", FULL, bars, bars[:1]), ()), told)
            self.assertIs(self.look(("never less", FULL, bars[:1], bars), ()), told)
            self.assertIs(self.look(("consonant", FULL, bars), ()), told)
            self.assertIs(self.look(("split", FULL, bars), ((0,), (0, 1), (HALF, HALF))), told)
            self.assertIs(self.look(("coherent", (2, ((0,), (1,))), bars), ()), told)
            joint = (((0, 1), (HALF, HALF)),) * many
            self.assertIs(self.look(("quiet", FULL, joint), (HALF, HALF)), told)
            self.assertIs(self.look(("less", FULL, (), joint), ((HALF, HALF), (0, 1))), told)
            self.assertIs(self.look(("not sure", FULL, joint, (HALF, HALF), (0, 1), 2), (1,)), told)

    def test_4096_cells_and_more(self):
        # 16 to the third are 4096.
        lot = (0, 1, 2)
        frame = (3, (lot,))
        wide = tuple((lot, (pair(at, 15),) * 3) for at in range(15))
        more = wide + ((lot, ((1, 40), None, None)),)
        numbers = ((1, 30),) * 3
        self.assertIs(accepts(("never less", frame, wide, wide[:3]), ()), True)
        self.assertIs(accepts(("never less", frame, more, wide), ()), False)
        self.assertIs(accepts(("never less", frame, wide, more[:14] + more[15:]), ()), False)
        self.assertIs(accepts(("never less", frame, wide[:-1], wide), ()), False)
        self.assertIs(accepts(("consonant", frame, wide), ()), True)
        self.assertIs(accepts(("consonant", frame, more), ()), False)
        self.assertIs(accepts(("coherent", frame, more), ()), True)
        self.assertIs(accepts(("sure", frame, more, numbers, (1,), 1), ()), True)
        self.assertIs(accepts(("less", frame, more[-1:], more), (numbers, (1,))), True)
        self.assertIs(accepts(("less", frame, more, wide), (((1, 50), ONE, ONE), (1,))), False)
        self.assertIs(accepts(("less", frame, wide, more), (((1, 50), ONE, ONE), (1,))), True)
        full = full_frame(3)
        self.assertIs(accepts(("quiet", full, more), numbers), True)
        self.assertIs(accepts(("quiet", full, more), (ONE, ONE, ONE)), False)
        self.assertIs(accepts(("split", full, more + (((0,), (HALF, None, None)),)), ((0,), (0, 1), numbers)), True)
        self.assertIs(accepts(("not sure", full, more, numbers, (1,), 1), (1, 2)), True)

    def test_what_this_package_finds(self):
        draw = random.Random(3)
        found = {}
        for _ in range(200):
            count = draw.randint(1, 3)
            frame = drawn_frame(draw, count)
            bars, other = (drawn_bars(draw, count, draw.choice((0, 2, 6, 10)), 3) for _ in range(2))
            if draw.random() < 0.3:
                other = bars[:-1]
            elif draw.random() < 0.4:
                bars = weighed_bars(frame, (ONE,) * count, HALF)
            split = parting(frame, bars, other)
            quiet = quiet_numbers(frame, bars)
            for word, parts, so in (("never less", (frame, bars, other), split is None),
                                    ("consonant", (frame, bars), quiet is None),
                                    ("coherent", (frame, bars), is_coherent(frame, bars))):
                self.assertIs(self.look((word,) + parts, ()), so)
                found[word, so] = found.get((word, so), 0) + 1
            if split is not None:
                self.assertIs(self.look(("less", frame, bars, other), split), True)
            if quiet is not None:
                self.assertIs(self.look(("quiet", frame, bars), quiet), True)
            numbers = drawn_numbers(draw, count, [corner for _, corner in bars], 5)
            group = draw.choice(subsets(range(count)))
            shown = self.look(("less", frame, bars, other), (numbers, group))
            self.assertFalse(shown and never_less(frame, bars, other))
            self.assertFalse(self.look(("quiet", frame, bars), numbers) and is_consonant(frame, bars))
            for lot, wider in product(frame[1], repeat=2):
                self.assertFalse(self.look(("split", frame, bars), (lot, wider, numbers)) and is_coherent(frame, bars))
        self.assertGreater(min(found.get(each, 0) for each in product(
            ("never less", "consonant", "coherent"), (True, False))), 15)


class Whole(Looks):

    def test_what_the_package_returned_is_taken(self):
        draw = random.Random(4)
        for _ in range(20):
            count = draw.randint(1, 4)
            frame, book = drawn_frame(draw, count), drawn_book(draw, count, 4)
            bars = bars_of(frame, book)
            told = bars_risk(frame, bars)
            self.assertIs(accepts(("risk up to", frame, book, told), tuple(
                prices(count, wrong_corners(frame, book, lot)) for lot in frame[1])), True)
            self.assertIs(accepts(("consonant", frame, bars), ()), is_consonant(frame, bars))
            self.assertIs(accepts(("coherent", frame, bars), ()), is_coherent(frame, bars))
        frame = full_frame(5)
        self.assertIs(accepts(("consonant", full_frame(3), ranked_bars(full_frame(3), TENTH)), ()), False)
        self.assertIs(accepts(("sure", frame, ranked_bars(frame, TENTH), (SCORE,) * 5, (0, 2, 4), 3), ()), True)

    def test_long_numbers(self):
        corners = (((LONG - 1, LONG), None), (None, (LONG - 7, LONG + 9)), ((LONG // 3, LONG + 1), (1, LONG - 1)))
        corners = tuple(tuple(limit and pair(*limit) for limit in corner) for corner in corners)
        told = greatest_chance(2, corners)
        self.assertIs(self.look(("chance up to", 2, corners, told), prices(2, corners)), True)
        self.assertIs(self.look(("chance above", 2, corners, told), masses(2, corners)), False)
        less = just(told, -Fraction(1, LONG ** 9))
        self.assertIs(self.look(("chance up to", 2, corners, less), prices(2, corners)), False)
        self.assertIs(self.look(("chance above", 2, corners, less), masses(2, corners)), True)

    def test_arguments_are_left_alone(self):
        kept = repr(RIGHT)
        again = eval(kept)
        for claim, paper in again:
            self.assertIs(accepts(claim, paper), True)
        self.assertEqual(repr(again), kept)
        broken = [["chance up to"], {"sure": [1]}]
        accepts(broken, broken)
        self.assertEqual(broken, [["chance up to"], {"sure": [1]}])


if __name__ == "__main__":
    unittest.main()
