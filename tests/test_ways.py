"""Short ways: steps down and up, their risks, the steps of webs, and Hommel's number."""

import random
import unittest
from fractions import Fraction
from itertools import combinations_with_replacement, product

from surefinds.bars import called, possible_lots, sure_count
from surefinds.chances import greatest_chance, masses
from surefinds.checker import accepts
from surefinds.frames import full_frame
from surefinds.named import ranked_bars, web_bars, web_weights, weighed_bars
from surefinds.ways import (down_risk, hommel_number, ranked_count, step_down, step_up, up_risk, web_calls)
from tests.support import (ONE, drawn_limits, drawn_number, numbers_beside, pair, plain_step_down, plain_step_up,
                           subsets, whole_of)
from tests.test_named import drawn_web, shared_out, taken_out

NIL, HALF, THIRD, QUARTER, TENTH, SCORE = (0, 1), (1, 2), (1, 3), (1, 4), (1, 10), (1, 20)
LONG = 10 ** 399


class Steps(unittest.TestCase):

    def steps(self, numbers, limits):
        """What both steps call, after a look at whether it is right."""
        down, up = step_down(numbers, limits), step_up(numbers, limits)
        self.assertEqual(down, plain_step_down(numbers, limits))
        self.assertEqual(up, plain_step_up(numbers, limits))
        self.assertLessEqual(set(down), set(up))
        return down, up

    def test_by_hand(self):
        falling = ((1, 30), SCORE, TENTH)
        self.assertEqual(self.steps(((1, 50), (1, 25), HALF), falling), ((0, 1), (0, 1)))
        self.assertEqual(self.steps((HALF, (1, 25), NIL), falling), ((1, 2), (1, 2)))
        self.assertEqual(self.steps(((1, 11),) * 3, falling), ((), (0, 1, 2)))
        self.assertEqual(self.steps((SCORE, ONE, SCORE), falling), ((), (0, 2)))
        self.assertEqual(self.steps((ONE, (1, 30), TENTH), falling), ((1,), (1,)))
        self.assertEqual(self.steps((TENTH, (1, 30), TENTH), falling), ((1,), (0, 1, 2)))
        self.assertEqual(self.steps((TENTH, (1, 30), SCORE), falling), ((0, 1, 2), (0, 1, 2)))
        self.assertEqual(self.steps((SCORE, (101, 1000), SCORE), falling), ((), (0, 2)))
        self.assertEqual(self.steps((ONE, ONE, ONE), falling), ((), ()))
        self.assertEqual(step_down(limits=falling, numbers=(NIL, ONE, SCORE)), (0, 2))
        self.assertEqual(step_up(limits=falling, numbers=(TENTH, NIL, ONE)), (1,))

    def test_one_supposition(self):
        self.assertEqual(self.steps((HALF,), (HALF,)), ((0,), (0,)))
        self.assertEqual(self.steps(((LONG + 1, 2 * LONG + 1),), (HALF,)), ((), ()))
        self.assertEqual(self.steps(((LONG - 1, 2 * LONG - 1),), (HALF,)), ((0,), (0,)))
        self.assertEqual(self.steps((NIL,), (NIL,)), ((0,), (0,)))
        self.assertEqual(self.steps(((1, LONG),), (NIL,)), ((), ()))

    def test_limits_of_0(self):
        self.assertEqual(self.steps((NIL, NIL), (NIL, NIL)), ((0, 1), (0, 1)))
        self.assertEqual(self.steps((NIL, ONE), (NIL, NIL)), ((0,), (0,)))
        self.assertEqual(self.steps((HALF, HALF), (NIL, HALF)), ((), (0, 1)))
        self.assertEqual(self.steps((HALF, NIL), (NIL, HALF)), ((0, 1), (0, 1)))
        self.assertEqual(self.steps((ONE, HALF), (NIL, HALF)), ((), ()))

    def test_like_limits(self):
        self.assertEqual(self.steps((ONE, THIRD, NIL, HALF), (THIRD,) * 4), ((1, 2), (1, 2)))
        self.assertEqual(self.steps((HALF, HALF, HALF, ONE), (THIRD, HALF, HALF, HALF)), ((), (0, 1, 2)))
        self.assertEqual(self.steps((HALF, THIRD, HALF, HALF), (THIRD, HALF, HALF, HALF)), ((0, 1, 2, 3),) * 2)

    def test_fractions_are_compared_as_numbers(self):
        self.assertEqual(self.steps(((9, 100), (2, 5)), ((1, 10), (3, 7))), ((0, 1), (0, 1)))
        self.assertEqual(self.steps(((1, 9), (4, 9)), ((2, 19), (3, 7))), ((), ()))

    def test_small_ones(self):
        limits = [pair(at, 4) for at in range(4)]
        numbers = [pair(at, 8) for at in (0, 1, 2, 3, 4, 6, 8)]
        for count in range(1, 4):
            for row in combinations_with_replacement(limits, count):
                for found in product(numbers, repeat=count):
                    self.steps(found, row)

    def test_drawn(self):
        draw = random.Random(1)
        sizes = {}
        for _ in range(1500):
            count = draw.randint(1, 5)
            limits = drawn_limits(draw, count, draw.choice((4, 40)))
            found = self.steps(numbers_beside(draw, count, [whole_of(each) for each in limits], 6), limits)
            sizes[count, len(found[0])] = sizes.get((count, len(found[0])), 0) + 1
        self.assertEqual(len(sizes), 20)

    def test_calls_never_become_fewer_as_numbers_fall(self):
        draw = random.Random(2)
        for _ in range(300):
            count = draw.randint(1, 5)
            limits = drawn_limits(draw, count, 9)
            numbers = numbers_beside(draw, count, [whole_of(each) for each in limits], 6)
            at = draw.randrange(count)
            fallen = numbers[:at] + (pair(whole_of(numbers[at]) * draw.choice((0, Fraction(2, 3)))),) + numbers[at + 1:]
            self.assertLessEqual(set(step_down(numbers, limits)), set(step_down(fallen, limits)))
            self.assertLessEqual(set(step_up(numbers, limits)), set(step_up(fallen, limits)))

    def test_the_steps_down_call_what_the_even_bars_call(self):
        draw = random.Random(3)
        some = 0
        for count in range(1, 6):
            frame = full_frame(count)
            for degree in (TENTH, SCORE, (2, 3), (99, 100)):
                bars = weighed_bars(frame, (ONE,) * count, degree)
                ends = [whole_of(degree) / left for left in range(count, 0, -1)]
                limits = tuple(pair(end) for end in ends)
                for _ in range(60):
                    numbers = numbers_beside(draw, count, ends, 5)
                    found = called(frame, bars, numbers)
                    self.assertEqual(step_down(numbers, limits), found)
                    some += 0 < len(found) < count
        self.assertGreater(some, 200)


def calling_corners(step, limits, many):
    """The greatest cells of so many true ones' numbers at which the steps call some of them, all others being 0."""
    ends = sorted({whole_of(limit) for limit in limits} | {Fraction(1)})
    others = (NIL,) * (len(limits) - many)

    def calls(cell):
        return any(at < many for at in step(tuple(pair(ends[place]) for place in cell) + others, limits))

    found = []
    for cell in product(range(len(ends)), repeat=many):
        greater = [cell[:at] + (cell[at] + 1,) + cell[at + 1:] for at in range(many) if cell[at] + 1 < len(ends)]
        if calls(cell) and not any(calls(each) for each in greater):
            found.append(tuple(pair(ends[place]) for place in cell))
    return tuple(found)


class Risks(unittest.TestCase):

    def plain_down_risk(self, limits):
        count = len(limits)
        return pair(min(Fraction(1), max(t * whole_of(limits[count - t]) for t in range(1, count + 1))))

    def plain_up_risk(self, limits):
        count = len(limits)
        chances = []
        for t in range(1, count + 1):
            corners = tuple(tuple(limits[count - t + len(group) - 1] if at in group else None for at in range(t))
                            for group in subsets(range(t)))
            chances.append(greatest_chance(t, corners))
        return max(chances, key=whole_of)

    def test_by_hand(self):
        falling = ((1, 30), SCORE, TENTH)
        self.assertEqual(down_risk(falling), TENTH)
        self.assertEqual(up_risk(falling), (7, 40))
        self.assertEqual(down_risk(limits=(THIRD,)), THIRD)
        self.assertEqual(up_risk(limits=(THIRD,)), THIRD)
        self.assertEqual([down_risk((NIL,) * 5), up_risk((NIL,) * 5)], [NIL, NIL])
        self.assertEqual([down_risk((HALF, HALF, HALF)), up_risk((HALF, HALF, HALF))], [ONE, ONE])
        self.assertEqual([down_risk((THIRD, THIRD, THIRD)), up_risk((THIRD, THIRD, THIRD))], [ONE, ONE])
        self.assertEqual([down_risk((SCORE, (3, 4))), up_risk((SCORE, (3, 4)))], [(3, 4), (4, 5)])
        self.assertEqual([down_risk((NIL, (1, 4))), up_risk((NIL, (1, 4)))], [QUARTER, QUARTER])
        self.assertEqual([down_risk((QUARTER, QUARTER)), up_risk((QUARTER, QUARTER))], [HALF, HALF])
        # Up, two true: masses up to 1 / 10 for the one or the other alone, and half of what is left of 2 / 3 for both.
        self.assertEqual(up_risk((TENTH, (2, 3))), pair(Fraction(1, 5) + Fraction(2, 3) - Fraction(1, 10)))

    def test_limits_that_grow_evenly(self):
        for count, factor in ((1, Fraction(1)), (2, Fraction(3, 2)), (3, Fraction(11, 6)), (4, Fraction(17, 8))):
            for degree in (Fraction(1, 10), Fraction(2, 5), Fraction(99, 100)):
                limits = tuple(pair(at * degree / count) for at in range(1, count + 1))
                # Of four, three true ones are worse than four: at most 3 / 2 alone, 3 / 8 by twos, 1 / 4 all at once.
                self.assertEqual(up_risk(limits), pair(min(Fraction(1), degree * factor)))

    def test_steps_down_for_a_degree(self):
        for count in range(1, 6):
            for degree in (TENTH, (99, 100)):
                self.assertEqual(down_risk(tuple(pair(whole_of(degree) / at) for at in range(count, 0, -1))), degree)

    def test_drawn(self):
        draw = random.Random(4)
        unlike = 0
        for _ in range(150):
            limits = drawn_limits(draw, draw.randint(1, 5), draw.choice((5, 30)))
            if draw.random() < 0.7:
                limits = tuple(pair(whole_of(limit) / len(limits)) for limit in limits)
            self.assertEqual(down_risk(limits), self.plain_down_risk(limits))
            self.assertEqual(up_risk(limits), self.plain_up_risk(limits))
            self.assertLessEqual(whole_of(down_risk(limits)), whole_of(up_risk(limits)))
            unlike += down_risk(limits) != up_risk(limits)
        self.assertGreater(unlike, 30)

    def test_against_what_the_steps_call(self):
        draw = random.Random(5)
        for count in (1, 2, 3, 3, 3, 4, 4, 4):
            limits = tuple(pair(whole_of(limit) / draw.choice((1, 2, 3))) for limit in drawn_limits(draw, count, 12))
            limits = tuple(sorted(limits, key=whole_of))
            for step, told in ((step_down, down_risk(limits)), (step_up, up_risk(limits))):
                chances = [greatest_chance(many, calling_corners(step, limits, many)) for many in range(1, count + 1)]
                self.assertEqual(max(chances, key=whole_of), told)

    def test_papers_for_it(self):
        falling = ((1, 30), SCORE, TENTH)
        corners = tuple(tuple(falling[len(group) - 1] if at in group else None for at in range(3))
                        for group in subsets(range(3)))
        found = masses(3, corners)
        self.assertTrue(accepts(("chance above", 3, corners, pair(Fraction(7, 40) - Fraction(1, LONG))), found))
        self.assertFalse(accepts(("chance above", 3, corners, up_risk(falling)), found))

    def test_long_numbers(self):
        limits = ((LONG // 7, LONG), (LONG // 5, LONG - 1), (LONG // 3, LONG + 1))
        limits = tuple(pair(*limit) for limit in limits)
        self.assertEqual(down_risk(limits), self.plain_down_risk(limits))
        self.assertEqual(up_risk(limits), self.plain_up_risk(limits))


def outcomes(weights, web, numbers, degree):
    """What the steps of a web call, for each order in which they can be taken."""
    found = set()

    def go(left, rows, calls):
        free = [at for at in left if left[at] > 0 and whole_of(numbers[at]) <= whole_of(degree) * left[at]]
        if not free:
            found.add(tuple(sorted(calls)))
        for at in free:
            go(*taken_out(left, rows, at), calls + (at,))

    go({at: whole_of(weight) for at, weight in enumerate(weights)},
       {(one, other): whole_of(web[one][other]) for one in range(len(web)) for other in range(len(web))}, ())
    return found


class Webs(unittest.TestCase):

    def calls(self, weights, web, numbers, degree):
        """What is told, after a look at whether it is right."""
        told = web_calls(weights, web, numbers, degree)
        self.assertEqual(outcomes(weights, web, numbers, degree), {told})
        frame = full_frame(len(weights))
        self.assertEqual(called(frame, web_bars(frame, weights, web, degree), numbers), told)
        self.assertEqual(web_calls(degree=degree, numbers=numbers, web=web, weights=weights), told)
        return told

    def test_by_hand(self):
        first = ((NIL, ONE), (NIL, NIL))
        self.assertEqual(self.calls((ONE, NIL), first, ((1, 50), (1, 25)), TENTH), (0, 1))
        self.assertEqual(self.calls((ONE, NIL), first, (HALF, (1, 25)), TENTH), ())
        self.assertEqual(self.calls((ONE, NIL), first, (HALF, NIL), TENTH), ())
        self.assertEqual(self.calls((ONE, NIL), first, (TENTH, (101, 1000)), TENTH), (0,))
        self.assertEqual(self.calls((ONE, NIL), first, (TENTH, TENTH), TENTH), (0, 1))
        self.assertEqual(self.calls((HALF,), ((NIL,),), (HALF,), ONE), (0,))
        self.assertEqual(self.calls((HALF,), ((NIL,),), ((51, 100),), ONE), ())

    def test_weights_of_0(self):
        # A weight of 0 calls nothing, not even the number 0.
        nothing = ((NIL, NIL), (NIL, NIL))
        self.assertEqual(self.calls((NIL, NIL), nothing, (NIL, NIL), ONE), ())
        self.assertEqual(self.calls((NIL, HALF), nothing, (NIL, NIL), ONE), (1,))
        self.assertEqual(self.calls((NIL, HALF), ((NIL, NIL), (ONE, NIL)), (HALF, NIL), ONE), (0, 1))
        self.assertEqual(self.calls((NIL, HALF), ((NIL, NIL), (HALF, NIL)), (HALF, NIL), ONE), (1,))
        self.assertEqual(self.calls((NIL, HALF), ((NIL, NIL), (HALF, NIL)), (QUARTER, HALF), ONE), (0, 1))

    def test_what_goes_back_and_forth(self):
        both = ((NIL, ONE), (ONE, NIL))
        self.assertEqual(self.calls((HALF, HALF), both, (SCORE, TENTH), TENTH), (0, 1))
        self.assertEqual(self.calls((HALF, HALF), both, (TENTH, SCORE), TENTH), (0, 1))
        self.assertEqual(self.calls((HALF, HALF), both, (TENTH, TENTH), TENTH), ())
        # 0 and 1 hand all to each other: of 2 nothing is left when both are out.
        lost = ((NIL, ONE, NIL), (ONE, NIL, NIL), (HALF, HALF, NIL))
        self.assertEqual(self.calls((HALF, HALF, NIL), lost, (SCORE, SCORE, NIL), TENTH), (0, 1))
        self.assertEqual(self.calls((HALF, QUARTER, QUARTER), lost, (HALF, HALF, QUARTER), ONE), (0, 1, 2))

    def test_even_webs_call_what_the_steps_down_call(self):
        draw = random.Random(6)
        for count in range(2, 6):
            share = pair(1, count - 1)
            web = tuple(tuple(NIL if at == to else share for to in range(count)) for at in range(count))
            ends = [Fraction(1, 2 * left) for left in range(count, 0, -1)]
            for _ in range(30):
                numbers = numbers_beside(draw, count, ends, 5)
                told = self.calls((pair(1, count),) * count, web, numbers, HALF)
                self.assertEqual(told, step_down(numbers, tuple(pair(end) for end in ends)))

    def test_drawn(self):
        draw = random.Random(7)
        back, sizes = 0, {}
        for _ in range(400):
            count = draw.randint(1, 5)
            weights, web = tuple(shared_out(draw, count, 6)), drawn_web(draw, count, 6)
            bottom = draw.randint(1, 20)
            degree = pair(draw.randint(1, bottom), bottom)
            ends = [whole_of(degree) * whole_of(each) for lot in subsets(range(count))
                    for each in web_weights(weights, web, lot)]
            told = self.calls(weights, web, numbers_beside(draw, count, ends, 5), degree)
            back += len(told) > 1 and any(web[one][other] == ONE == web[other][one] for one in told for other in told)
            sizes[count, len(told)] = sizes.get((count, len(told)), 0) + 1
        self.assertGreater(back, 10)
        self.assertEqual(len(sizes), 20)

    def test_long_numbers(self):
        weights = ((LONG - 1, 2 * LONG), (LONG - 3, 2 * LONG))
        web = ((NIL, (LONG - 1, LONG)), ((LONG - 9, LONG), NIL))
        degree = (LONG - 7, LONG)
        just = pair(whole_of(degree) * whole_of(weights[0]))
        above = pair(whole_of(just) + Fraction(1, LONG ** 4))
        self.assertEqual(self.calls(weights, web, (just, ONE), degree), (0,))
        self.assertEqual(self.calls(weights, web, (above, ONE), degree), ())
        left = web_weights(weights, web, (1,))
        last = pair(whole_of(degree) * whole_of(left[1]))
        self.assertEqual(self.calls(weights, web, (just, last), degree), (0, 1))


def plain_hommel(numbers, degree):
    ordered = sorted(map(whole_of, numbers))
    return max(k for k in range(len(ordered) + 1)
               if all(each > at * whole_of(degree) / k for at, each in enumerate(ordered[len(ordered) - k:], 1)))


class Hommel(unittest.TestCase):

    def look(self, numbers, degree):
        """Hommel's number, after a look at whether what is told is right."""
        told = hommel_number(numbers, degree)
        self.assertEqual(told, plain_hommel(numbers, degree))
        frame = full_frame(len(numbers))
        bars = ranked_bars(frame, degree)
        self.assertEqual(told, max(map(len, possible_lots(frame, bars, numbers))))
        for group in subsets(range(len(numbers))):
            count = ranked_count(numbers, degree, group)
            self.assertEqual(count, sure_count(frame, bars, numbers, group))
            self.assertIs(type(count), int)
        found = tuple(at for at in range(len(numbers)) if ranked_count(numbers, degree, (at,)) == 1)
        self.assertEqual(found, called(frame, bars, numbers))
        self.assertEqual(found, tuple(at for at, number in enumerate(numbers)
                                      if told * whole_of(number) <= whole_of(degree)))
        return told

    def test_by_hand(self):
        found = ((1, 50), (1, 25), HALF)
        self.assertEqual(self.look(found, TENTH), 1)
        self.assertEqual(ranked_count(found, TENTH, (0, 1, 2)), 2)
        self.assertEqual(ranked_count(found, TENTH, (2,)), 0)
        self.assertEqual(self.look((NIL, NIL), TENTH), 0)
        self.assertEqual(self.look((ONE, ONE), TENTH), 2)
        self.assertEqual(self.look((ONE,) * 5, ONE), 0)
        self.assertEqual(self.look((ONE, NIL, ONE, NIL, ONE), (99, 100)), 3)
        self.assertEqual(self.look((TENTH,), TENTH), 0)
        self.assertEqual(self.look(((LONG + 1, 10 * LONG),), TENTH), 1)
        self.assertEqual(hommel_number(degree=TENTH, numbers=found), 1)
        self.assertEqual(ranked_count(group=(0, 2), degree=TENTH, numbers=found), 1)

    def test_what_no_single_one_shows(self):
        # 3 / 25 is above the degree, so none is called; but it is up to twice the degree.
        self.assertEqual(self.look(((1, 25), (1, 25), (1, 25), ONE, ONE), TENTH), 3)
        self.assertEqual(ranked_count(((1, 25), (1, 25), (1, 25), ONE, ONE), TENTH, (0,)), 0)
        self.assertEqual(ranked_count(((1, 25), (1, 25), (1, 25), ONE, ONE), TENTH, (0, 1)), 1)
        self.assertEqual(ranked_count(((1, 25), (1, 25), (1, 25), ONE, ONE), TENTH, (0, 1, 2)), 2)
        self.assertEqual(ranked_count(((1, 25), (1, 25), (1, 25), ONE, ONE), TENTH, (0, 3, 4)), 0)

    def test_small_ones(self):
        for count in (1, 2, 3):
            for tops in combinations_with_replacement(range(7), count):
                for degree in (ONE, HALF):
                    self.look(tuple(pair(top, 6) for top in tops[::-1]), degree)

    def test_drawn(self):
        draw = random.Random(8)
        sizes = {}
        for _ in range(200):
            count, bottom = draw.randint(1, 5), draw.randint(1, 20)
            degree = pair(draw.randint(1, bottom), bottom)
            ends = [at * whole_of(degree) / size for size in range(1, count + 1) for at in range(1, size + 1)]
            told = self.look(numbers_beside(draw, count, ends, 4), degree)
            sizes[count, told] = sizes.get((count, told), 0) + 1
        self.assertGreater(len(sizes), 17)

    def test_long_numbers(self):
        degree = pair(LONG - 7, 3 * LONG)
        just = pair(whole_of(degree) / 2)
        above = pair(whole_of(just) + Fraction(1, LONG))
        self.assertEqual(self.look((just, ONE), degree), 1)
        self.assertEqual(self.look((above, ONE), degree), 2)
        self.assertEqual(self.look((above, just, ONE), degree), 2)
        self.assertEqual(self.look((just, ONE, just), degree), 1)


class Whole(unittest.TestCase):

    def test_arguments_are_left_alone(self):
        draw = random.Random(9)
        limits, weights, web = drawn_limits(draw, 4, 9), tuple(shared_out(draw, 4, 6)), drawn_web(draw, 4, 6)
        numbers = tuple(drawn_number(draw, 9) for _ in range(4))
        kept = repr((numbers, limits, weights, web))
        again = eval(kept)
        self.assertEqual(step_down(numbers, limits), step_down(*again[:2]))
        self.assertEqual(step_up(numbers, limits), step_up(*again[:2]))
        self.assertEqual(down_risk(limits), down_risk(again[1]))
        self.assertEqual(up_risk(limits), up_risk(again[1]))
        self.assertEqual(web_calls(weights, web, numbers, HALF), web_calls(again[2], again[3], again[0], HALF))
        self.assertEqual(hommel_number(numbers, HALF), hommel_number(again[0], HALF))
        self.assertEqual(ranked_count(numbers, HALF, (0, 3)), ranked_count(again[0], HALF, (0, 3)))
        self.assertEqual(repr((numbers, limits, weights, web)), kept)
        self.assertEqual(repr(again), kept)


if __name__ == "__main__":
    unittest.main()
