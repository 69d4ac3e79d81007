"""Certificates: of two claims the one that is so, with a paper that the checker accepts."""

import random
import unittest
from fractions import Fraction
from itertools import product

from surefinds.bars import bars_of, bars_risk, called, is_coherent, sure_count
from surefinds.books import risk
from surefinds.certificates import (certify_chance, certify_coherent, certify_consonant, certify_mean,
                                    certify_never_less, certify_risk, certify_sure)
from surefinds.chances import greatest_chance, greatest_mean, masses, prices, worth_masses, worth_prices
from surefinds.checker import accepts
from surefinds.closed import is_consonant, never_less, parting, quiet_numbers
from surefinds.degrees import least_degree, scaled_bars
from surefinds.frames import full_frame, implied_frame
from surefinds.named import ranked_bars, web_bars, weighed_bars
from surefinds.shares import apart_share, greatest_share, share_worths
from surefinds.ways import down_risk, hommel_number, ranked_count, step_down, up_risk, web_calls
from tests.plain_claims import OPPOSITE, PAIRS, plain_accepts
from tests.support import (ONE, balanced_corners, drawn_bars, drawn_book, drawn_corners, drawn_frame, drawn_limits,
                           drawn_numbers, drawn_worths, pair, plain_sure, subsets, whole_of)
from tests.test_named import drawn_web, shared_out

NIL, HALF, THIRD, QUARTER, TENTH, SCORE = (0, 1), (1, 2), (1, 3), (1, 4), (1, 10), (1, 20)
LONG = 10 ** 399
FULL = full_frame(2)
STRONG = (((0,), (HALF, None)), ((0, 1), (QUARTER, None)), ((0, 1), (None, QUARTER)), ((1,), (None, HALF)))
WEAK = (((0,), (QUARTER, None)), ((0, 1), (QUARTER, None)), ((0, 1), (None, QUARTER)), ((1,), (None, QUARTER)))
JOINT = (((0, 1), (HALF, HALF)),)

AROUND = tuple(Fraction(*each) for each in ((0, 1), (1, LONG), (-1, LONG), (1, 7), (-1, 7), (3, 1), (-3, 1)))


class Certified(unittest.TestCase):

    def certified(self, ask, *parts):
        """The text of the claim and the paper, after a look at whether all that is told is right."""
        told = ask(*parts)
        self.assertIs(type(told), tuple)
        self.assertEqual(len(told), 2)
        claim, paper = told
        self.assertIs(type(claim), tuple)
        self.assertEqual(len(claim), 1 + len(parts))
        self.assertTrue(all(one is other for one, other in zip(claim[1:], parts)))
        self.assertIs(accepts(claim, paper), True, (claim, paper))
        self.assertIs(plain_accepts(claim, paper), True, (claim, paper))
        opposite = (OPPOSITE[claim[0]],) + claim[1:]
        self.assertIs(accepts(opposite, paper), False)
        self.assertIs(accepts(opposite, ()), False)
        self.assertEqual(ask(*parts), told)
        return claim[0], paper


class Chances(Certified):

    def test_by_hand(self):
        lone = ((TENTH, None), (None, TENTH))
        self.assertEqual(self.certified(certify_chance, 2, lone, (1, 5))[0], "chance up to")
        self.assertEqual(self.certified(certify_chance, 2, lone, (1, 6)), ("chance above", (TENTH, TENTH)))
        self.assertEqual(self.certified(certify_chance, 2, (), NIL)[0], "chance up to")
        self.assertEqual(self.certified(certify_chance, 2, (), (-1, 3)), ("chance above", ()))
        self.assertEqual(self.certified(certify_chance, 1, ((None,),), ONE)[0], "chance up to")
        self.assertEqual(self.certified(certify_chance, 1, ((None,),), (9, 10)), ("chance above", (ONE,)))
        told = certify_chance(fraction=HALF, corners=lone, count=2)
        self.assertEqual(told[0], ("chance up to", 2, lone, HALF))
        told = certify_mean(fraction=NIL, worths=((lone[0], HALF),), count=2)
        self.assertEqual(told, (("mean above", 2, ((lone[0], HALF),), NIL), (TENTH,)))

    def test_drawn_chances(self):
        draw = random.Random(1)
        for _ in range(80):
            count = draw.randint(1, 5)
            corners = drawn_corners(draw, count, draw.choice((0, 1, 4, 12)), draw.choice((4, 60)), 0.3)
            told = whole_of(greatest_chance(count, corners))
            for more in AROUND:
                word, _ = self.certified(certify_chance, count, corners, pair(told + more))
                self.assertEqual(word, "chance up to" if more >= 0 else "chance above")

    def test_drawn_means(self):
        draw = random.Random(2)
        for _ in range(80):
            count = draw.randint(1, 5)
            corners = drawn_corners(draw, count, draw.choice((0, 1, 4, 12)), draw.choice((4, 60)), 0.3)
            worths = drawn_worths(draw, corners, 9)
            told = whole_of(greatest_mean(count, worths))
            for more in AROUND:
                word, _ = self.certified(certify_mean, count, worths, pair(told + more))
                self.assertEqual(word, "mean up to" if more >= 0 else "mean above")

    def test_sixty_corners(self):
        draw = random.Random(3)
        for count in (3, 5):
            corners = balanced_corners(draw, count, 60, Fraction(1, 3))
            told = greatest_chance(count, corners)
            self.assertEqual(self.certified(certify_chance, count, corners, told)[0], "chance up to")
            less = pair(whole_of(told) - Fraction(1, LONG))
            self.assertEqual(self.certified(certify_chance, count, corners, less)[0], "chance above")
            worths = drawn_worths(draw, corners, 9)
            told = greatest_mean(count, worths)
            self.assertEqual(self.certified(certify_mean, count, worths, told)[0], "mean up to")

    def test_long_numbers(self):
        draw = random.Random(4)
        corners = drawn_corners(draw, 3, 8, LONG, 0.3)
        told = whole_of(greatest_chance(3, corners))
        self.assertEqual(self.certified(certify_chance, 3, corners, pair(told))[0], "chance up to")
        less = pair(told - Fraction(1, LONG ** 20))
        self.assertEqual(self.certified(certify_chance, 3, corners, less)[0], "chance above")


class Risks(Certified):

    def test_by_hand(self):
        book = (((0,), 1, (QUARTER, None)), ((1,), 1, (None, QUARTER)))
        word, paper = self.certified(certify_risk, FULL, book, HALF)
        self.assertEqual([word, len(paper)], ["risk up to", 3])
        self.assertEqual(self.certified(certify_risk, FULL, book, (49, 100)), (
            "risk above", ((0, 1), (QUARTER, QUARTER))))
        self.assertEqual(self.certified(certify_risk, FULL, (), NIL)[0], "risk up to")
        self.assertEqual(self.certified(certify_risk, FULL, (), (-1, 2)), ("risk above", ((0,), ())))
        self.assertEqual(certify_risk(fraction=ONE, book=book, frame=FULL)[0], ("risk up to", FULL, book, ONE))

    def test_drawn(self):
        draw = random.Random(5)
        for _ in range(50):
            count = draw.randint(1, 4)
            frame, book = drawn_frame(draw, count), drawn_book(draw, count, draw.choice((0, 1, 3, 7)))
            told = whole_of(risk(frame, book))
            for more in AROUND:
                word, paper = self.certified(certify_risk, frame, book, pair(told + more))
                self.assertEqual(word, "risk up to" if more >= 0 else "risk above")
                if more >= 0:
                    self.assertEqual(len(paper), len(frame[1]))

    def test_sixty_sayings(self):
        draw = random.Random(6)
        book = drawn_book(draw, 5, 60)
        told = risk(full_frame(5), book)
        self.assertEqual(self.certified(certify_risk, full_frame(5), book, told)[0], "risk up to")
        thin = tuple((group, number, tuple(limit and pair(whole_of(limit) / 70) for limit in corner[:4]) + (SCORE,))
                     for group, number, corner in book)
        frame = implied_frame(5, (((0,), 4), ((1,), 4), ((2,), 4), ((3,), 4)))
        told = whole_of(risk(frame, thin))
        for more, word in ((0, "risk up to"), (-Fraction(1, LONG), "risk above")):
            self.assertEqual(self.certified(certify_risk, frame, thin, pair(told + more))[0], word)


class Sure(Certified):

    def test_by_hand(self):
        bars = ranked_bars(FULL, TENTH)
        numbers = ((1, 50), HALF)
        self.assertEqual(self.certified(certify_sure, FULL, bars, numbers, (0, 1), 1), ("sure", ()))
        self.assertEqual(self.certified(certify_sure, FULL, bars, numbers, (0, 1), 2), ("not sure", (1,)))
        self.assertEqual(self.certified(certify_sure, FULL, (), (NIL, NIL), (1,), 1)[0], "not sure")
        told = certify_sure(number=1, group=(0,), numbers=numbers, bars=bars, frame=FULL)
        self.assertEqual(told, (("sure", FULL, bars, numbers, (0,), 1), ()))

    def test_drawn(self):
        draw = random.Random(7)
        found = {}
        for _ in range(120):
            count = draw.randint(1, 4)
            frame, bars = drawn_frame(draw, count), drawn_bars(draw, count, draw.choice((0, 4, 12, 30)), 5)
            numbers = drawn_numbers(draw, count, [corner for _, corner in bars], 9)
            for group in subsets(range(count)):
                for number in range(1, len(group) + 1):
                    word, _ = self.certified(certify_sure, frame, bars, numbers, group, number)
                    sure = plain_sure(frame, bars, numbers, group) >= number
                    self.assertEqual(word, "sure" if sure else "not sure")
                    found[word] = found.get(word, 0) + 1
        self.assertGreater(min(found.values()), 200)


class Bars(Certified):

    def test_by_hand(self):
        self.assertEqual(self.certified(certify_never_less, FULL, STRONG, WEAK), ("never less", ()))
        self.assertEqual(self.certified(certify_never_less, FULL, WEAK, STRONG)[0], "less")
        self.assertEqual(self.certified(certify_consonant, FULL, STRONG), ("consonant", ()))
        self.assertEqual(self.certified(certify_consonant, FULL, JOINT)[0], "quiet")
        self.assertEqual(self.certified(certify_coherent, FULL, WEAK), ("coherent", ()))
        word, (lot, other, numbers) = self.certified(certify_coherent, FULL, STRONG)
        self.assertEqual([word, other], ["split", (0, 1)])
        self.assertIn(lot, ((0,), (1,)))
        self.assertEqual(certify_never_less(other=WEAK, bars=STRONG, frame=FULL)[0], ("never less", FULL, STRONG, WEAK))
        self.assertEqual(certify_consonant(bars=JOINT, frame=FULL)[0], ("quiet", FULL, JOINT))
        self.assertEqual(certify_coherent(bars=STRONG, frame=FULL)[0], ("split", FULL, STRONG))

    def test_splits_that_few_numbers_show(self):
        # The limit 1 does as much as no limit, on either side.
        frame = (2, ((0,), (0, 1)))
        self.assertEqual(self.certified(certify_coherent, frame, (((0,), (ONE, None)), ((0, 1), (None, ONE))))[0],
                         "coherent")
        self.assertEqual(self.certified(certify_coherent, frame, (((0,), (HALF, None)), ((0, 1), (HALF, None))))[0],
                         "coherent")
        just = pair(Fraction(1) - Fraction(1, LONG))
        self.assertEqual(self.certified(certify_coherent, frame, (((0,), (None, None)), ((0, 1), (None, just)))),
                         ("split", ((0,), (0, 1), (ONE, ONE))))
        self.assertEqual(self.certified(certify_coherent, frame, (((0,), (HALF, None)), ((0, 1), (HALF, just)))),
                         ("split", ((0,), (0, 1), (HALF, ONE))))
        self.assertEqual(self.certified(certify_coherent, frame, (((0,), (NIL, None)),)),
                         ("split", ((0,), (0, 1), (NIL, ONE))))
        # Two corners of the greater lot cover no corner that is not within one of them.
        self.assertEqual(self.certified(certify_coherent, frame, (
            ((0,), (HALF, None)), ((0, 1), (QUARTER, None)), ((0, 1), (HALF, HALF))))[0], "split")

    def test_sets_that_are_no_lots(self):
        bars = (((0,), (HALF, None)),)
        self.assertEqual(self.certified(certify_coherent, (2, ((0,), (1,))), bars)[0], "coherent")
        self.assertEqual(self.certified(certify_coherent, (2, ((0, 1), (1,))), bars)[0], "coherent")
        self.assertEqual(self.certified(certify_coherent, (2, ((0,), (0, 1))), bars)[0], "split")

    def test_drawn(self):
        draw = random.Random(8)
        found = {}
        for _ in range(200):
            count = draw.randint(1, 3)
            frame, bars = drawn_frame(draw, count), drawn_bars(draw, count, draw.choice((0, 2, 6, 12)), 3)
            pick = draw.random()
            if pick < 0.3:
                bars = weighed_bars(frame, (ONE,) * count, HALF)
            elif pick < 0.6:
                bars = bars_of(frame, drawn_book(draw, count, 3))
            other = bars[1:] if draw.random() < 0.4 else drawn_bars(draw, count, draw.choice((0, 2, 6)), 3)
            for told, so in ((self.certified(certify_never_less, frame, bars, other), never_less(frame, bars, other)),
                             (self.certified(certify_consonant, frame, bars), is_consonant(frame, bars)),
                             (self.certified(certify_coherent, frame, bars), is_coherent(frame, bars))):
                self.assertIs(told[1] == (), so)
                self.assertIs(told[0] in ("never less", "consonant", "coherent"), so)
                found[told[0]] = found.get(told[0], 0) + 1
        self.assertEqual(len(found), 6)
        self.assertGreater(min(found.values()), 10)

    def test_five_suppositions(self):
        frame = full_frame(5)
        even, ranked = weighed_bars(frame, (ONE,) * 5, TENTH), ranked_bars(frame, TENTH)
        for bars in (even, ranked):
            told = certify_coherent(frame, bars)
            self.assertEqual(told[0][0], "split")
            self.assertIs(accepts(*told), True)
        self.assertIs(accepts(("less", frame, even, ranked), (((1, 10),) * 5, (0,))), True)


class Whole(Certified):

    def test_exclusive_claims(self):
        # Whatever paper stands for one of them, none does for the other.
        draw = random.Random(9)
        for _ in range(30):
            count = draw.randint(1, 3)
            frame, book = drawn_frame(draw, count), drawn_book(draw, count, 3)
            bars, other = bars_of(frame, book), drawn_bars(draw, count, 5, 3)
            corners = tuple(corner for _, _, corner in book)
            worths = drawn_worths(draw, corners, 5)
            numbers = drawn_numbers(draw, count, corners, 5)
            group = draw.choice(subsets(range(count)))
            chance, mean, told = greatest_chance(count, corners), greatest_mean(count, worths), risk(frame, book)
            asks = ((certify_chance, (count, corners, chance)), (certify_mean, (count, worths, mean)),
                    (certify_risk, (frame, book, told)), (certify_sure, (frame, bars, numbers, group, 1)),
                    (certify_never_less, (frame, bars, other)), (certify_consonant, (frame, bars)),
                    (certify_coherent, (frame, bars)))
            papers = [ask(*parts)[1] for ask, parts in asks]
            papers += [(), prices(count, corners), masses(count, corners), worth_prices(count, worths),
                       worth_masses(count, worths), numbers, (numbers, group), parting(frame, other, bars),
                       quiet_numbers(frame, other), certify_coherent(frame, other)[1]]
            papers += [lot for lot in frame[1]] + [(ONE, ())]
            papers += [(lot, wider, numbers) for lot, wider in product(frame[1], repeat=2)]
            for (one, two), (_, parts) in zip(PAIRS, asks):
                accepted = [any(accepts((word,) + parts, paper) for paper in papers) for word in (one, two)]
                self.assertEqual(sum(accepted), 1, (one, parts))

    def test_certificates_of_all_that_is_told(self):
        draw = random.Random(10)
        for _ in range(20):
            count = draw.randint(2, 4)
            limits, lot = drawn_limits(draw, count, 9), draw.choice(subsets(range(count)))
            worths = share_worths(limits, lot)
            self.assertEqual(self.certified(certify_mean, count, worths, greatest_share(limits, lot))[0], "mean up to")
            self.assertIn(self.certified(certify_mean, count, worths, apart_share(limits, lot, (NIL,) * count))[0],
                          ("mean up to", "mean above"))
            frame = full_frame(count)
            singles = tuple(((at,), 1, tuple(limits[0] if at == index else None for index in range(count)))
                            for at in range(count))
            self.assertLessEqual(whole_of(risk(frame, singles)), whole_of(down_risk(limits)))
            self.assertEqual(self.certified(certify_risk, frame, singles, up_risk(limits))[0], "risk up to")

    def test_bars_with_names(self):
        draw = random.Random(11)
        for count in (2, 3):
            frame = full_frame(count)
            weights, web = tuple(shared_out(draw, count, 6)), drawn_web(draw, count, 6)
            even, webbed, ranked = (weighed_bars(frame, (ONE,) * count, TENTH), web_bars(frame, weights, web, TENTH),
                                    ranked_bars(frame, TENTH))
            self.assertEqual(self.certified(certify_never_less, frame, ranked, even), ("never less", ()))
            self.assertEqual(self.certified(certify_never_less, frame, even, ranked)[0], "less")
            self.assertEqual(self.certified(certify_consonant, frame, webbed)[0], "consonant")
            self.assertEqual(self.certified(certify_consonant, frame, even)[0], "consonant")
            for bars in (even, webbed, ranked):
                scaled = scaled_bars(frame, bars, HALF)
                self.assertEqual(self.certified(certify_never_less, frame, bars, scaled)[0], "never less")
                numbers = drawn_numbers(draw, count, [corner for _, corner in bars], 30)
                group = tuple(range(count))
                for number in range(1, count + 1):
                    degree = least_degree(frame, bars, numbers, group, number)
                    word, _ = self.certified(certify_sure, frame, bars, numbers, group, number)
                    self.assertEqual(word, "not sure" if degree is None else "sure")

    def test_short_ways_have_certificates(self):
        draw = random.Random(12)
        for _ in range(25):
            count = draw.randint(1, 4)
            frame, group = full_frame(count), draw.choice(subsets(range(count)))
            weights, web = tuple(shared_out(draw, count, 6)), drawn_web(draw, count, 6)
            even, webbed, ranked = (weighed_bars(frame, (ONE,) * count, HALF), web_bars(frame, weights, web, HALF),
                                    ranked_bars(frame, HALF))
            numbers = drawn_numbers(draw, count, [corner for _, corner in even + webbed + ranked], 9)
            limits = tuple(pair(Fraction(1, 2 * left)) for left in range(count, 0, -1))
            for bars, calls in ((even, step_down(numbers, limits)), (webbed, web_calls(weights, web, numbers, HALF))):
                for at in range(count):
                    word, _ = self.certified(certify_sure, frame, bars, numbers, (at,), 1)
                    self.assertEqual(word, "sure" if at in calls else "not sure")
            told = ranked_count(numbers, HALF, group)
            for number in range(1, len(group) + 1):
                word, _ = self.certified(certify_sure, frame, ranked, numbers, group, number)
                self.assertEqual(word, "sure" if number <= told else "not sure")
            size = hommel_number(numbers, HALF)
            self.assertEqual(count - size, sure_count(frame, ranked, numbers, tuple(range(count))))

    def test_books_and_their_bars(self):
        draw = random.Random(13)
        for _ in range(20):
            count = draw.randint(1, 4)
            frame, book = drawn_frame(draw, count), drawn_book(draw, count, 4)
            bars = bars_of(frame, book)
            self.assertEqual(self.certified(certify_risk, frame, book, bars_risk(frame, bars))[0], "risk up to")
            numbers = drawn_numbers(draw, count, [corner for _, _, corner in book], 5)
            for group, number, corner in book:
                if all(limit is None or whole_of(each) <= whole_of(limit) for each, limit in zip(numbers, corner)):
                    self.assertEqual(self.certified(certify_sure, frame, bars, numbers, group, number)[0], "sure")
            for at in called(frame, bars, numbers):
                self.assertEqual(self.certified(certify_sure, frame, bars, numbers, (at,), 1)[0], "sure")

    def test_arguments_are_left_alone(self):
        draw = random.Random(14)
        corners = drawn_corners(draw, 3, 6, 9, 0.3)
        book, frame = drawn_book(draw, 3, 5), full_frame(3)
        worths, bars, other = drawn_worths(draw, corners, 5), drawn_bars(draw, 3, 6, 4), drawn_bars(draw, 3, 6, 4)
        asks = ((certify_chance, (3, corners, THIRD)), (certify_mean, (3, worths, THIRD)),
                (certify_risk, (frame, book, THIRD)), (certify_sure, (frame, bars, (HALF,) * 3, (0, 2), 1)),
                (certify_never_less, (frame, bars, other)), (certify_consonant, (frame, bars)),
                (certify_coherent, (frame, bars)))
        for ask, parts in asks:
            kept = repr(parts)
            again = eval(kept)
            self.assertEqual(ask(*parts), ask(*again))
            self.assertEqual(repr(parts), kept)
            self.assertEqual(repr(again), kept)


if __name__ == "__main__":
    unittest.main()
