"""Greatest chances and means, masses and prices, and those for numbers that are apart."""

import random
import unittest
from fractions import Fraction
from itertools import combinations

from surefinds.chances import (apart_chance, apart_mean, greatest_chance, greatest_mean, masses, prices, worth_masses,
                               worth_prices)
from tests.support import (ONE, as_worths, balanced_corners, drawn_corners, drawn_worths, fault_of_masses,
                           fault_of_prices, is_plain_fraction, pair, plain_mean, subsets, whole_of,
                           worth_at)

NIL, HALF, THIRD, QUARTER, TENTH = (0, 1), (1, 2), (1, 3), (1, 4), (1, 10)


class Solved(unittest.TestCase):
    """Masses that fit and prices that bar with one sum prove, by themselves, that it is the greatest."""

    def check_worths(self, count, worths):
        told = greatest_mean(count, worths)
        self.assertTrue(is_plain_fraction(told))
        self.assertIsNone(fault_of_masses(count, worths, worth_masses(count, worths), told))
        self.assertIsNone(fault_of_prices(count, worths, worth_prices(count, worths), told))
        return told

    def check_corners(self, count, corners):
        told = greatest_chance(count, corners)
        self.assertTrue(is_plain_fraction(told))
        self.assertIsNone(fault_of_masses(count, as_worths(corners), masses(count, corners), told))
        self.assertIsNone(fault_of_prices(count, as_worths(corners), prices(count, corners), told))
        self.assertEqual(greatest_mean(count, as_worths(corners)), told)
        return told


class Drawn(Solved):

    def test_drawn_corners(self):
        draw = random.Random(1)
        for _ in range(400):
            count = draw.randint(1, 5)
            many = draw.choice((0, 1, 2, 3, 5, 8, 13, 30, 60))
            most = draw.choice((2, 3, 6, 20, 1000))
            self.check_corners(count, drawn_corners(draw, count, many, most, draw.choice((0, 0.2, 0.5, 0.8))))

    def test_drawn_worths(self):
        draw = random.Random(2)
        for _ in range(400):
            count = draw.randint(1, 5)
            many = draw.choice((0, 1, 2, 3, 5, 8, 13, 30, 60))
            corners = drawn_corners(draw, count, many, draw.choice((2, 3, 6, 20, 1000)), draw.choice((0, 0.3, 0.7)))
            self.check_worths(count, drawn_worths(draw, corners, draw.choice((1, 4, 50))))

    def test_corners_none_of_which_is_idle(self):
        draw = random.Random(3)
        for count in range(1, 6):
            for scale in (Fraction(1, 10), Fraction(1, 2), Fraction(1), Fraction(2)):
                for many in (7, 20):
                    corners = balanced_corners(draw, count, many, scale)
                    self.check_corners(count, corners)
                    self.check_worths(count, drawn_worths(draw, corners, 30))

    def test_sixty_corners_of_five_suppositions(self):
        draw = random.Random(4)
        for scale in (Fraction(1, 10), Fraction(2)):
            corners = balanced_corners(draw, 5, 60, scale)
            self.check_corners(5, corners)
            self.check_worths(5, drawn_worths(draw, corners, 30))

    def test_limits_from_a_small_lattice(self):
        draw = random.Random(5)
        lattice = (NIL, (1, 20), TENTH, (3, 20), (1, 5), HALF, ONE, None)
        for _ in range(120):
            count = draw.randint(1, 5)
            corners = tuple(tuple(draw.choice(lattice) for _ in range(count)) for _ in range(draw.randint(1, 25)))
            self.check_corners(count, corners)
            fractions = (NIL, HALF, ONE, (3, 2), (7, 1))
            self.check_worths(count, tuple((corner, draw.choice(fractions)) for corner in corners))

    def test_long_numbers(self):
        draw = random.Random(6)
        for count, many, figures in ((1, 5, 399), (2, 10, 399), (3, 12, 300), (5, 12, 200)):
            corners = []
            for _ in range(many):
                parts = [draw.randint(1, 1000) for _ in range(count)]
                bottoms = [draw.randrange(10 ** (figures - 1), 10 ** figures) for _ in range(count)]
                corners.append(tuple(pair(bottom * part // (2 * sum(parts)), bottom)
                                     for part, bottom in zip(parts, bottoms)))
            self.check_corners(count, tuple(corners))
            worths = [(corner, pair(draw.randrange(10 ** figures), draw.randrange(1, 10 ** figures)))
                      for corner in corners]
            self.check_worths(count, tuple(worths))

    def test_limits_that_are_apart_by_next_to_nothing(self):
        least = Fraction(1, 10 ** 398)
        for count in (2, 3):
            base = [Fraction(1, 5), Fraction(2, 5), Fraction(3, 5)]
            corners = []
            for at, limit in enumerate(base):
                for step in (-1, 0, 1):
                    row = [limit + step * least] + [Fraction(4, 5) - limit - step * (at + 1) * least] * (count - 1)
                    corners.append(tuple(pair(each) for each in row))
            self.check_corners(count, tuple(corners))
            tiny = tuple((corner, pair(1 + at * least)) for at, corner in enumerate(corners))
            self.check_worths(count, tiny)
            small = tuple(tuple(pair(whole_of(limit) * least) for limit in corner) for corner in corners[1::3])
            self.check_corners(count, small)

    def test_neighbours_with_long_bottoms(self):
        # Neighbouring ratios of this row differ by 1 over the product of their bottoms, as little as can be.
        row = [1, 2]
        while row[-1] < 10 ** 398:
            row.append(row[-2] + row[-1])
        low, between, high = sorted((pair(row[-3], row[-2]), pair(row[-2], row[-1]), pair(row[-4], row[-3])),
                                    key=whole_of)
        self.assertEqual(self.check_corners(2, ((high, low),)), low)
        self.assertEqual(self.check_corners(2, ((low, high),)), low)
        self.assertEqual(self.check_corners(3, ((high, between, low), (high, low, between))), between)
        self.assertEqual(self.check_corners(1, ((low,), (high,), (between,))), high)
        self.assertEqual(self.check_corners(2, ((low, None), (high, TENTH), (None, high))), ONE)
        self.check_worths(2, (((low, low), (3, 1)), ((high, low), (2, 1)), ((between, high), ONE)))
        self.assertEqual(apart_chance(1, ((low,), (high,), (between,))), high)

    def test_what_was_returned_may_be_passed(self):
        draw = random.Random(7)
        corners = []
        for _ in range(6):
            bottoms = [draw.randrange(10 ** 99, 10 ** 100) for _ in range(3)]
            corners.append(tuple(pair(bottom * draw.randint(1, 9) // 40, bottom) for bottom in bottoms))
        found = masses(3, tuple(corners))
        again = tuple((mass, other, None) for mass, other in zip(found, found[::-1]))
        self.check_corners(3, again)
        self.check_worths(3, tuple((corner, mass) for corner, mass in zip(corners, found)))


class JointWays(unittest.TestCase):

    def test_the_masses_tell_a_just_way_that_reaches_the_chance(self):
        draw = random.Random(16)
        for _ in range(60):
            count = draw.randint(1, 5)
            corners = drawn_corners(draw, count, draw.randint(1, 12), 20, 0.3)
            found = [whole_of(mass) for mass in masses(count, corners)]
            for index in range(count):
                limits = [Fraction(2) if corner[index] is None else whole_of(corner[index]) for corner in corners]
                end = Fraction(0)
                for limit, mass in sorted(zip(limits, found)):
                    # The piece of this corner, on which its number lies, ends at most at its limit.
                    end += mass
                    self.assertTrue(mass == 0 or end <= min(limit, 1))

    def test_no_drawn_way_is_above_the_greatest(self):
        draw = random.Random(17)
        for _ in range(60):
            count, cells = draw.randint(1, 5), draw.choice((4, 10, 24))
            corners = drawn_corners(draw, count, draw.randint(0, 8), cells, 0.3)
            worths = drawn_worths(draw, corners, 4)
            chance, mean = whole_of(greatest_chance(count, corners)), whole_of(greatest_mean(count, worths))
            for _ in range(20):
                # Each number is each cell's upper end once: it is at most t with a chance of at most t.
                columns = [[Fraction(at, cells) for at in draw.sample(range(1, cells + 1), cells)]
                           for _ in range(count)]
                rows = list(zip(*columns))
                self.assertLessEqual(sum(worth_at(as_worths(corners), row) for row in rows), cells * chance)
                self.assertLessEqual(sum(worth_at(worths, row) for row in rows), cells * mean)


class Edges(Solved):

    def test_no_corners(self):
        for count in range(1, 6):
            self.assertEqual(self.check_corners(count, ()), NIL)
            self.assertEqual(self.check_worths(count, ()), NIL)
            self.assertEqual(masses(count, ()), ())

    def test_a_corner_without_a_limit(self):
        for count in range(1, 6):
            free = (None,) * count
            self.assertEqual(self.check_corners(count, (free,)), ONE)
            self.assertEqual(self.check_corners(count, ((TENTH,) * count, free, (NIL,) * count)), ONE)
            self.assertEqual(self.check_worths(count, ((free, (7, 2)), ((HALF,) * count, ONE))), (7, 2))

    def test_limits_of_0_and_1(self):
        self.assertEqual(self.check_corners(1, ((NIL,),)), NIL)
        self.assertEqual(self.check_corners(1, ((ONE,),)), ONE)
        self.assertEqual(self.check_corners(2, ((NIL, None), (None, NIL), (NIL, NIL))), NIL)
        self.assertEqual(self.check_corners(2, ((NIL, None), (None, HALF))), HALF)
        self.assertEqual(self.check_corners(2, ((ONE, None), (None, HALF))), ONE)
        self.assertEqual(self.check_corners(2, ((ONE, HALF), (HALF, None))), ONE)
        self.assertEqual(self.check_corners(2, ((ONE, TENTH), (TENTH, ONE))), (1, 5))
        self.assertEqual(self.check_corners(2, ((ONE, TENTH), (None, TENTH))), TENTH)
        self.assertEqual(self.check_worths(2, (((NIL, None), (100, 1)), ((None, ONE), HALF))), HALF)

    def test_fractions_of_0_and_above_1(self):
        corner, other = (TENTH, None), (None, TENTH)
        self.assertEqual(self.check_worths(2, ((corner, NIL), (other, NIL))), NIL)
        self.assertEqual(self.check_worths(2, ((corner, (30, 1)), (other, (5, 1)))), (7, 2))
        self.assertEqual(self.check_worths(2, ((corner, (10 ** 399, 1)),)), (10 ** 398, 1))
        self.assertEqual(self.check_worths(2, ((corner, ONE), (corner, (2, 1)), (corner, NIL))), (1, 5))

    def test_one_worth_within_another_one(self):
        # 1 at numbers up to 1 / 10, 1 / 3 at those up to 1 / 2.
        self.assertEqual(self.check_worths(1, (((TENTH,), ONE), ((HALF,), THIRD))), (7, 30))
        self.assertEqual(self.check_worths(1, (((TENTH,), THIRD), ((HALF,), ONE))), HALF)

    def test_like_corners(self):
        single = ((TENTH, None), (None, TENTH))
        self.assertEqual(self.check_corners(2, single * 30), (1, 5))
        self.assertEqual(self.check_corners(5, ((HALF,) * 5,) * 60), HALF)

    def test_two_sums_by_hand(self):
        # Each two of the three corners together have masses of at most 1 / 2.
        pairs = ((HALF, HALF, None), (HALF, None, HALF), (None, HALF, HALF))
        self.assertEqual(self.check_corners(3, pairs), (3, 4))
        self.assertEqual(self.check_corners(2, (((1, 20), None), (None, (1, 20)), (TENTH, TENTH))), (3, 20))
        self.assertEqual(prices(1, ((HALF,),)), (NIL, ((0, HALF, ONE),)))

    def test_equal_calls_and_arguments_left_alone(self):
        draw = random.Random(8)
        for count in range(1, 6):
            corners = drawn_corners(draw, count, 9, 20, 0.3)
            worths = drawn_worths(draw, corners, 9)
            kept = (eval(repr(corners)), eval(repr(worths)))
            for ask in (greatest_chance, masses, prices, apart_chance):
                self.assertEqual(ask(count, corners), ask(count=count, corners=kept[0]))
            for ask in (greatest_mean, worth_masses, worth_prices, apart_mean):
                self.assertEqual(ask(count, worths), ask(worths=kept[1], count=count))
            self.assertEqual((corners, worths), kept)


class ClosedForms(Solved):

    def test_one_corner(self):
        draw = random.Random(9)
        for _ in range(100):
            count = draw.randint(1, 5)
            corner = drawn_corners(draw, count, 1, 30, 0.4)[0]
            least = min([whole_of(limit) for limit in corner if limit is not None], default=Fraction(1))
            self.assertEqual(self.check_corners(count, (corner,)), pair(least))

    def test_corners_within_others_add_nothing(self):
        draw = random.Random(10)
        for _ in range(60):
            count = draw.randint(1, 5)
            corners = drawn_corners(draw, count, draw.randint(1, 8), 12, 0.3)
            smaller = []
            for corner in corners:
                smaller.append(tuple(pair((1 if limit is None else whole_of(limit)) * draw.randint(0, 4), 4)
                                     for limit in corner))
            filled = tuple(tuple(ONE if limit is None else limit for limit in corner) for corner in corners)
            told = greatest_chance(count, corners)
            self.assertEqual(self.check_corners(count, corners + tuple(smaller)), told)
            self.assertEqual(self.check_corners(count, tuple(smaller) + filled + corners), told)

    def test_corners_that_bind_unlike_suppositions(self):
        draw = random.Random(11)
        for _ in range(80):
            low, high = draw.choice(((1, 1), (1, 2), (2, 2), (2, 3), (1, 4), (3, 2)))
            many, most = draw.randint(1, 6), draw.choice((12, 60))
            first = drawn_corners(draw, low, many, most, 0.2)
            second = drawn_corners(draw, high, many, most, 0.2)
            if draw.random() < 0.6:
                first = tuple(tuple(limit and pair(whole_of(limit), 4) for limit in corner) for corner in first)
                second = tuple(tuple(limit and pair(whole_of(limit), 4) for limit in corner) for corner in second)
            told = min(Fraction(1), whole_of(greatest_chance(low, first)) + whole_of(greatest_chance(high, second)))
            both = tuple(corner + (None,) * high for corner in first) + tuple((None,) * low + each for each in second)
            self.assertEqual(self.check_corners(low + high, both), pair(told))

    def test_single_limits(self):
        for limits in ((1, 2, 3), (10, 20, 30, 40), (50, 50, 1, 2, 3)):
            count = len(limits)
            corners = tuple(tuple(pair(limit, 100) if at == index else None for at in range(count))
                            for index, limit in enumerate(limits))
            self.assertEqual(self.check_corners(count, corners), pair(min(100, sum(limits)), 100))

    def test_all_sets_of_one_size(self):
        for count in range(1, 6):
            for size in range(1, count + 1):
                for limit in (Fraction(0), Fraction(1, 20), Fraction(1, 7), Fraction(9, 10), Fraction(1)):
                    corners = tuple(tuple(pair(limit) if at in group else None for at in range(count))
                                    for group in combinations(range(count), size))
                    told = min(Fraction(1), count * limit / size)
                    self.assertEqual(self.check_corners(count, corners), pair(told))

    def test_all_sets_with_limits_by_their_sizes(self):
        for count in range(1, 6):
            harmonic = sum(Fraction(1, size) for size in range(1, count + 1))
            for limit in (Fraction(0), Fraction(1, 20), Fraction(1, 3), Fraction(1, 2), Fraction(1)):
                corners = tuple(tuple(pair(len(group) * limit / count) if at in group else None for at in range(count))
                                for group in subsets(range(count)))
                self.assertEqual(self.check_corners(count, corners), pair(min(Fraction(1), limit * harmonic)))
                self.assertEqual(apart_chance(count, corners), pair(limit))

    def test_limits_that_are_scaled(self):
        draw = random.Random(12)
        for _ in range(60):
            count = draw.randint(1, 5)
            corners = drawn_corners(draw, count, draw.randint(1, 10), 12, 0.3)
            scale = Fraction(draw.randint(0, 6), 6)
            less = tuple(tuple(limit and pair(whole_of(limit) * scale) for limit in corner) for corner in corners)
            before, after = whole_of(greatest_chance(count, corners)), whole_of(greatest_chance(count, less))
            self.assertLessEqual(after, before)
            self.assertGreaterEqual(after, scale * before)


class Apart(unittest.TestCase):

    def test_drawn_ones_against_a_plain_sum(self):
        draw = random.Random(13)
        for _ in range(150):
            count = draw.randint(1, 5)
            many = draw.randint(0, (40, 12, 7, 4, 3)[count - 1])
            corners = drawn_corners(draw, count, many, draw.choice((4, 30)), draw.choice((0, 0.3, 0.6)))
            worths = drawn_worths(draw, corners, 6)
            self.assertEqual(apart_chance(count, corners), pair(plain_mean(count, as_worths(corners))))
            self.assertEqual(apart_mean(count, worths), pair(plain_mean(count, worths)))

    def test_lattices_against_a_plain_sum(self):
        draw = random.Random(14)
        lattice = (NIL, TENTH, THIRD, HALF, ONE, None)
        for _ in range(40):
            count = draw.randint(2, 5)
            corners = tuple(tuple(draw.choice(lattice) for _ in range(count)) for _ in range(draw.randint(1, 15)))
            worths = drawn_worths(draw, corners, 6)
            self.assertEqual(apart_mean(count, worths), pair(plain_mean(count, worths)))

    def test_never_above_the_greatest(self):
        draw = random.Random(15)
        for _ in range(60):
            count = draw.randint(1, 4)
            corners = drawn_corners(draw, count, draw.randint(0, 6), 12, 0.3)
            worths = drawn_worths(draw, corners, 6)
            self.assertLessEqual(whole_of(apart_chance(count, corners)), whole_of(greatest_chance(count, corners)))
            self.assertLessEqual(whole_of(apart_mean(count, worths)), whole_of(greatest_mean(count, worths)))

    def test_edges(self):
        for count in range(1, 6):
            self.assertEqual(apart_chance(count, ()), NIL)
            self.assertEqual(apart_mean(count, ()), NIL)
            self.assertEqual(apart_chance(count, ((None,) * count,)), ONE)
            self.assertEqual(apart_chance(count, ((ONE,) * count,)), ONE)
            self.assertEqual(apart_chance(count, ((NIL,) * count,) * 2), NIL)
            self.assertEqual(apart_mean(count, (((None,) * count, (9, 4)),)), (9, 4))
            self.assertEqual(apart_mean(count, (((HALF,) * count, NIL),)), NIL)
        self.assertEqual(apart_mean(2, (((HALF, None), (3, 1)), ((None, None), (1, 4)))), (13, 8))
        self.assertEqual(apart_chance(2, ((HALF, NIL), (THIRD, QUARTER))), (1, 12))

    def test_long_numbers(self):
        long = [pair(10 ** 398 + at, 3 * 10 ** 398 + 1) for at in range(1, 6)]
        told = Fraction(1)
        for limit in long:
            told *= whole_of(limit)
        self.assertEqual(apart_chance(5, (tuple(long),)), pair(told))
        self.assertEqual(apart_mean(5, ((tuple(long), pair(1, 10 ** 399)),)), pair(told / 10 ** 399))
