"""Bars with names: weighed, even, ranked, and those of webs."""

import random
import unittest
from fractions import Fraction
from itertools import permutations

from surefinds.bars import are_bars, bars_risk, called, possible_lots
from surefinds.chances import apart_chance, greatest_chance
from surefinds.closed import is_consonant
from surefinds.frames import full_frame
from surefinds.named import ranked_bars, web_bars, web_weights, weighed_bars
from tests.support import ONE, drawn_frame, drawn_number, is_plain_fraction, pair, subsets, whole_of

NIL, HALF, THIRD, QUARTER, TENTH, SCORE = (0, 1), (1, 2), (1, 3), (1, 4), (1, 10), (1, 20)
LONG = 10 ** 399


def single(count, index, limit):
    return tuple(pair(limit) if at == index else None for at in range(count))


def plain_weighed(frame, weights, degree):
    found = []
    for lot in frame[1]:
        total = sum(whole_of(weights[at]) for at in lot)
        for at in lot:
            if weights[at] != NIL:
                found.append((lot, single(frame[0], at, whole_of(degree) * whole_of(weights[at]) / total)))
    return tuple(found)


def plain_ranked(frame, degree):
    found = []
    for lot in frame[1]:
        for group in subsets(lot):
            limit = pair(Fraction(len(group), len(lot)) * whole_of(degree))
            found.append((lot, tuple(limit if at in group else None for at in range(frame[0]))))
    return tuple(found)


def taken_out(weights, web, index):
    """What is left of weights and a web, told as dicts, when the index is taken out, all at once."""
    others = [at for at in weights if at != index]
    left = {at: weights[at] + weights[index] * web[index, at] for at in others}
    rows = {}
    for one in others:
        back = web[one, index] * web[index, one]
        for other in others:
            if one == other or back == 1:
                rows[one, other] = Fraction(0)
            else:
                rows[one, other] = (web[one, other] + web[one, index] * web[index, other]) / (1 - back)
    return left, rows


def plain_left(weights, web, order):
    left = {at: whole_of(weight) for at, weight in enumerate(weights)}
    rows = {(one, other): whole_of(web[one][other]) for one in left for other in left}
    for index in order:
        left, rows = taken_out(left, rows, index)
    return tuple(pair(left[at]) if at in left else NIL for at in range(len(weights)))


def corners_of(bars, lot):
    return tuple(corner for own, corner in bars if own == lot)


def shared_out(draw, many, most):
    """So many fractions from 0 on with a sum up to 1, often just 1, 0 among them."""
    parts = [draw.choice((0, 1, 1, 1)) * draw.randint(0, most) for _ in range(many)]
    rest = draw.choice((0, 0, draw.randint(1, most)))
    bottom = sum(parts) + rest
    return [pair(part, bottom) if bottom else NIL for part in parts]


def drawn_web(draw, count, most):
    rows = []
    for index in range(count):
        if count > 1 and draw.random() < 0.3:
            row = [NIL] * count
            row[draw.choice([at for at in range(count) if at != index])] = ONE
        else:
            row = shared_out(draw, count - 1, most)
            row.insert(index, NIL)
        rows.append(tuple(row))
    return tuple(rows)


class Weighed(unittest.TestCase):

    def test_by_hand(self):
        self.assertEqual(weighed_bars(full_frame(2), (ONE, (3, 1)), TENTH), (
            ((0,), (TENTH, None)), ((0, 1), ((1, 40), None)), ((0, 1), (None, (3, 40))), ((1,), (None, TENTH))))
        self.assertEqual(weighed_bars((3, ((0, 1, 2), (0, 2), (1,))), (THIRD, NIL, HALF), ONE), (
            ((0, 1, 2), ((2, 5), None, None)), ((0, 1, 2), (None, None, (3, 5))),
            ((0, 2), ((2, 5), None, None)), ((0, 2), (None, None, (3, 5)))))
        self.assertEqual(weighed_bars(degree=HALF, weights=(NIL, NIL), frame=full_frame(2)), ())
        self.assertEqual(weighed_bars(full_frame(1), ((1, LONG),), HALF), (((0,), (HALF,)),))

    def test_even_ones(self):
        for count in range(1, 6):
            frame = full_frame(count)
            told = weighed_bars(frame, (ONE,) * count, TENTH)
            self.assertEqual(told, tuple((lot, single(count, at, Fraction(1, 10 * len(lot))))
                                         for lot in frame[1] for at in lot))
            self.assertEqual(weighed_bars(frame, ((7, 3),) * count, TENTH), told)

    def test_drawn(self):
        draw = random.Random(1)
        for _ in range(100):
            count = draw.randint(1, 5)
            frame = drawn_frame(draw, count)
            weights = tuple(draw.choice((NIL, pair(draw.randint(0, 30), draw.randint(1, 9)))) if draw.random() < 0.5
                            else pair(draw.randint(1, 30), draw.randint(1, 9)) for _ in range(count))
            bottom = draw.randint(1, 30)
            degree = pair(draw.randint(1, bottom), bottom)
            told = weighed_bars(frame, weights, degree)
            self.assertEqual(told, plain_weighed(frame, weights, degree))
            self.assertEqual(weighed_bars(degree=degree, weights=weights, frame=frame), told)
            self.assertIs(are_bars(count, told), True)
            for lot in frame[1]:
                chance = NIL if all(weights[at] == NIL for at in lot) else degree
                self.assertEqual(greatest_chance(count, corners_of(told, lot)), chance)

    def test_long_numbers(self):
        weights, degree = ((LONG - 1, LONG), (LONG - 2, 3), (5, LONG - 1)), (LONG - 7, LONG)
        told = weighed_bars(full_frame(3), weights, degree)
        self.assertEqual(told, plain_weighed(full_frame(3), weights, degree))
        self.assertEqual(bars_risk(full_frame(3), told), degree)


class Ranked(unittest.TestCase):

    def test_by_hand(self):
        self.assertEqual(ranked_bars(full_frame(2), TENTH), (
            ((0,), (TENTH, None)), ((0, 1), (SCORE, None)), ((0, 1), (TENTH, TENTH)), ((0, 1), (None, SCORE)),
            ((1,), (None, TENTH))))
        self.assertEqual(ranked_bars(degree=ONE, frame=(3, ((0, 2),))), (
            ((0, 2), (HALF, None, None)), ((0, 2), (ONE, None, ONE)), ((0, 2), (None, None, HALF))))
        self.assertEqual(ranked_bars((3, ((0, 1, 2),)), HALF), tuple(((0, 1, 2), corner) for corner in (
            ((1, 6), None, None), (THIRD, THIRD, None), (HALF, HALF, HALF), (THIRD, None, THIRD), (None, (1, 6), None),
            (None, THIRD, THIRD), (None, None, (1, 6)))))

    def test_full_frames(self):
        for count in range(1, 6):
            told = ranked_bars(full_frame(count), TENTH)
            self.assertEqual(told, plain_ranked(full_frame(count), TENTH))
            self.assertEqual(len(told), 3 ** count - 2 ** count)
            self.assertIs(are_bars(count, told), True)

    def test_drawn(self):
        draw = random.Random(2)
        for _ in range(60):
            count = draw.randint(1, 5)
            frame, bottom = drawn_frame(draw, count), draw.randint(1, 40)
            degree = pair(draw.randint(1, bottom), bottom)
            told = ranked_bars(frame, degree)
            self.assertEqual(told, plain_ranked(frame, degree))
            for _ in range(5):
                numbers = tuple(draw.choice((drawn_number(draw, 9), pair(whole_of(degree) * draw.randint(1, 5) / 5)))
                                for _ in range(count))
                possible = possible_lots(frame, told, numbers)
                for lot in frame[1]:
                    ordered = sorted(whole_of(numbers[at]) for at in lot)
                    barred = any(each <= (at + 1) * whole_of(degree) / len(lot) for at, each in enumerate(ordered))
                    self.assertEqual(lot not in possible, barred)

    def test_the_chances_of_the_lots(self):
        for count, degree in ((1, ONE), (2, ONE), (2, (2, 3)), (3, TENTH), (3, (6, 11)), (3, (5, 9)), (4, THIRD),
                              (5, SCORE)):
            frame = full_frame(count)
            told = ranked_bars(frame, degree)
            for lot in frame[1]:
                harmonic = sum(Fraction(1, at) for at in range(1, len(lot) + 1))
                corners = corners_of(told, lot)
                self.assertEqual(greatest_chance(count, corners), pair(min(Fraction(1), whole_of(degree) * harmonic)))
                self.assertEqual(apart_chance(count, corners), degree)


class WebWeights(unittest.TestCase):

    FIRST = ((NIL, ONE), (NIL, NIL))

    def test_by_hand(self):
        self.assertEqual(web_weights((ONE, NIL), self.FIRST, (1,)), (NIL, ONE))
        self.assertEqual(web_weights((ONE, NIL), self.FIRST, (0,)), (ONE, NIL))
        self.assertEqual(web_weights((ONE, NIL), self.FIRST, (0, 1)), (ONE, NIL))
        self.assertEqual(web_weights(lot=(0,), web=((NIL, NIL), (HALF, NIL)), weights=(THIRD, HALF)), ((7, 12), NIL))
        chain = ((NIL, ONE, NIL), (NIL, NIL, ONE), (NIL, NIL, NIL))
        self.assertEqual(web_weights((ONE, NIL, NIL), chain, (2,)), (NIL, NIL, ONE))
        self.assertEqual(web_weights((ONE, NIL, NIL), chain, (1, 2)), (NIL, ONE, NIL))
        self.assertEqual(web_weights((ONE, NIL, NIL), chain, (0, 2)), (ONE, NIL, NIL))

    def test_what_goes_back_and_forth(self):
        # 0 out: 1 has 1 / 2 and hands 3 / 4 of it to 2; what it would hand back to itself is shared out anew.
        web = ((NIL, HALF, HALF), (HALF, NIL, HALF), (NIL, NIL, NIL))
        self.assertEqual(web_weights((ONE, NIL, NIL), web, (1, 2)), (NIL, HALF, HALF))
        self.assertEqual(web_weights((ONE, NIL, NIL), web, (2,)), (NIL, NIL, ONE))
        lossy = ((NIL, HALF, NIL), (HALF, NIL, QUARTER), (NIL, NIL, NIL))
        self.assertEqual(web_weights((ONE, NIL, NIL), lossy, (2,)), (NIL, NIL, (1, 6)))

    def test_weights_that_are_lost(self):
        web = ((NIL, ONE, NIL), (ONE, NIL, NIL), (HALF, HALF, NIL))
        self.assertEqual(web_weights((HALF, QUARTER, QUARTER), web, (2,)), (NIL, NIL, QUARTER))
        self.assertEqual(web_weights((HALF, QUARTER, QUARTER), web, (0,)), (ONE, NIL, NIL))
        self.assertEqual(web_weights((HALF, QUARTER, QUARTER), web, (0, 2)), ((3, 4), NIL, QUARTER))
        ring = ((NIL, ONE, NIL), (NIL, NIL, ONE), (ONE, NIL, NIL))
        self.assertEqual(web_weights((THIRD, THIRD, THIRD), ring, (1,)), (NIL, ONE, NIL))
        self.assertEqual(web_weights((THIRD,), ((NIL,),), (0,)), (THIRD,))

    def test_every_order_of_taking_out(self):
        draw = random.Random(3)
        lost = 0
        for _ in range(150):
            count = draw.randint(1, 5)
            weights, web = tuple(shared_out(draw, count, 6)), drawn_web(draw, count, 6)
            for lot in subsets(range(count)):
                told = web_weights(weights, web, lot)
                out = [at for at in range(count) if at not in lot]
                for order in permutations(out):
                    self.assertEqual(plain_left(weights, web, order), told)
                self.assertTrue(all(is_plain_fraction(each) for each in told))
                self.assertTrue(all(whole_of(told[at]) >= whole_of(weights[at]) for at in lot))
                self.assertTrue(all(told[at] == NIL for at in out))
                self.assertLessEqual(sum(map(whole_of, told)), sum(map(whole_of, weights)))
                self.assertEqual(web_weights(lot=lot, web=web, weights=weights), told)
            lost += any(web[one][other] == ONE == web[other][one] for one in range(count) for other in range(one))
        self.assertGreater(lost, 15)

    def test_rings(self):
        # All that is taken out goes on to the next one that is left.
        for count in range(2, 6):
            for order in permutations(range(1, count)):
                ring = dict(zip((0,) + order, order + (0,)))
                web = tuple(tuple(ONE if ring[at] == to else NIL for to in range(count)) for at in range(count))
                for lot in subsets(range(count)):
                    left = [0] * count
                    for at in range(count):
                        while at not in lot:
                            at = ring[at]
                        left[at] += 1
                    told = web_weights((pair(1, count),) * count, web, lot)
                    self.assertEqual(told, tuple(pair(each, count) for each in left))

    def test_long_numbers(self):
        draw = random.Random(4)
        rows = []
        for index in range(4):
            row = [pair(draw.randint(LONG // 10, LONG) // 4, LONG) for _ in range(4)]
            row[index] = NIL
            rows.append(tuple(row))
        weights = tuple(pair(draw.randint(LONG // 10, LONG) // 4, LONG) for _ in range(4))
        for lot in ((0,), (1, 3), (2,)):
            out = [at for at in range(4) if at not in lot]
            self.assertEqual(web_weights(weights, tuple(rows), lot), plain_left(weights, tuple(rows), out[::-1]))
        bars = web_bars(full_frame(4), weights, tuple(rows), (LONG - 1, LONG))
        self.assertIs(are_bars(4, bars), True)
        self.assertLess(whole_of(bars_risk(full_frame(4), bars)), 1)


class WebBars(unittest.TestCase):

    def test_by_hand(self):
        first = ((NIL, ONE), (NIL, NIL))
        self.assertEqual(web_bars(full_frame(2), (ONE, NIL), first, TENTH), (
            ((0,), (TENTH, None)), ((0, 1), (TENTH, None)), ((1,), (None, TENTH))))
        both = ((NIL, ONE), (ONE, NIL))
        self.assertEqual(web_bars(degree=HALF, web=both, weights=(HALF, HALF), frame=full_frame(2)), (
            ((0,), (HALF, None)), ((0, 1), (QUARTER, None)), ((0, 1), (None, QUARTER)), ((1,), (None, HALF))))
        self.assertEqual(web_bars((2, ((1,),)), (HALF, NIL), first, ONE), (((1,), (None, HALF)),))
        self.assertEqual(web_bars(full_frame(2), (NIL, NIL), first, ONE), ())

    def test_even_bars_are_those_of_an_even_web(self):
        for count in range(2, 6):
            share = pair(1, count - 1)
            web = tuple(tuple(NIL if at == to else share for to in range(count)) for at in range(count))
            frame = full_frame(count)
            self.assertEqual(web_bars(frame, (pair(1, count),) * count, web, TENTH),
                             weighed_bars(frame, (ONE,) * count, TENTH))

    def test_drawn(self):
        draw = random.Random(5)
        for _ in range(100):
            count = draw.randint(1, 5)
            frame, bottom = drawn_frame(draw, count), draw.randint(1, 30)
            weights, web = tuple(shared_out(draw, count, 6)), drawn_web(draw, count, 6)
            degree = pair(draw.randint(1, bottom), bottom)
            told = web_bars(frame, weights, web, degree)
            self.assertEqual(web_bars(degree=degree, web=web, weights=weights, frame=frame), told)
            expected = []
            for lot in frame[1]:
                left = plain_left(weights, web, [at for at in range(count) if at not in lot])
                expected += [(lot, single(count, at, whole_of(degree) * whole_of(left[at]))) for at in lot
                             if left[at] != NIL]
            self.assertEqual(told, tuple(expected))
            self.assertIs(are_bars(count, told), True)
            self.assertLessEqual(whole_of(bars_risk(frame, told)), whole_of(degree))

    def test_in_the_full_frame_they_are_consonant(self):
        draw = random.Random(6)
        for _ in range(15):
            count = draw.randint(1, 3)
            weights, web = tuple(shared_out(draw, count, 6)), drawn_web(draw, count, 6)
            self.assertIs(is_consonant(full_frame(count), web_bars(full_frame(count), weights, web, HALF)), True)

    def test_arguments_are_left_alone(self):
        draw = random.Random(7)
        frame, weights, web = full_frame(4), tuple(shared_out(draw, 4, 6)), drawn_web(draw, 4, 6)
        kept = repr((frame, weights, web))
        again = eval(kept)
        self.assertEqual(web_bars(frame, weights, web, HALF), web_bars(*again, HALF))
        self.assertEqual(web_weights(weights, web, (1, 2)), web_weights(*again[1:], (1, 2)))
        self.assertEqual(weighed_bars(frame, weights, HALF), weighed_bars(*again[:2], HALF))
        self.assertEqual(ranked_bars(frame, HALF), ranked_bars(again[0], HALF))
        self.assertEqual(repr((frame, weights, web)), kept)
        self.assertEqual(repr(again), kept)
        self.assertIs(type(web_weights(weights, web, (1, 2))), tuple)
        numbers = (NIL,) * 4
        self.assertEqual(called(frame, ranked_bars(frame, HALF), numbers), (0, 1, 2, 3))


if __name__ == "__main__":
    unittest.main()
