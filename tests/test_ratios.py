"""7.1: ratios, and 0.2 as far as it speaks of them."""

import random
import unittest
from fractions import Fraction
from math import gcd

from ringfell.ratios import is_ratio, ratio_less, ratio_minus, ratio_of, ratio_plus, ratio_times
from tests.helpers import FAR


def pair_of(fraction):
    return (fraction.numerator, fraction.denominator)


def drawn_number(rng):
    most = rng.choice((2, 5, 12, 100, 10 ** 9, 10 ** 60))
    return rng.randrange(-most + 1, most)


def drawn_fractions(seed, count):
    rng = random.Random(seed)
    row = [Fraction(0), Fraction(1), Fraction(-1), Fraction(1, 2), Fraction(-1, 2), Fraction(10 ** 60 - 1, FAR)]
    while len(row) < count:
        row.append(Fraction(drawn_number(rng), abs(drawn_number(rng)) or 1))
    return row


class Ratios(unittest.TestCase):
    def held(self, told, wanted):
        self.assertIs(type(told), tuple)
        self.assertEqual([type(number) for number in told], [int, int])
        self.assertEqual(told, pair_of(wanted))
        self.assertGreaterEqual(told[1], 1)
        self.assertEqual(gcd(told[0], told[1]), 1)
        self.assertIs(is_ratio(told), True)

    def test_ratio_of(self):
        for top in range(-30, 31):
            self.held(ratio_of(top), Fraction(top))
            for bottom in range(1, 31):
                self.held(ratio_of(top, bottom), Fraction(top, bottom))
        self.assertEqual(ratio_of(0), (0, 1))
        self.assertEqual(ratio_of(0, 7), (0, 1))
        self.assertEqual(ratio_of(-6, 4), (-3, 2))
        self.assertEqual(ratio_of(6, 3), (2, 1))

    def test_ratio_of_great_numbers(self):
        rng = random.Random(701)
        for k in range(300):
            top = drawn_number(rng)
            bottom = abs(drawn_number(rng)) or 1
            divisor = abs(drawn_number(rng)) or 1
            self.held(ratio_of(top, bottom), Fraction(top, bottom))
            self.held(ratio_of(top * divisor, bottom * divisor), Fraction(top, bottom))
            self.held(ratio_of(top), Fraction(top))

    def test_sums_and_their_like(self):
        row = drawn_fractions(702, 60)
        for one in row:
            for other in row:
                pairs = (pair_of(one), pair_of(other))
                self.held(ratio_plus(pairs[0], pairs[1]), one + other)
                self.held(ratio_minus(pairs[0], pairs[1]), one - other)
                self.held(ratio_times(pairs[0], pairs[1]), one * other)
                self.assertIs(ratio_less(pairs[0], pairs[1]), one < other)

    def test_small_ones_in_full(self):
        row = sorted({Fraction(top, bottom) for top in range(-6, 7) for bottom in range(1, 6)})
        for one in row:
            for other in row:
                pairs = (pair_of(one), pair_of(other))
                self.held(ratio_plus(pairs[0], pairs[1]), one + other)
                self.held(ratio_minus(pairs[0], pairs[1]), one - other)
                self.held(ratio_times(pairs[0], pairs[1]), one * other)
                self.assertIs(ratio_less(pairs[0], pairs[1]), one < other)

    def test_told_ones_handed_in_again(self):
        rng = random.Random(703)
        total = Fraction(0)
        told = (0, 1)
        for k in range(60):
            bottom = rng.randrange(1, 10 ** 60)
            top = rng.randrange(-10 ** 60, 10 ** 60)
            total += Fraction(top, bottom)
            told = ratio_plus(told, ratio_of(top, bottom))
            self.held(told, total)
        self.held(ratio_minus(told, told), Fraction(0))
        self.assertIs(ratio_less(told, told), False)
        self.assertIs(ratio_less(told, ratio_plus(told, (1, FAR))), True)
        self.assertIs(ratio_less(ratio_plus(told, (1, FAR)), told), False)


class IsRatio(unittest.TestCase):
    def test_named_ones(self):
        for pair in ((0, 1), (1, 1), (-1, 1), (1, 2), (-3, 2), (FAR, 1), (-FAR, 1), (1, FAR), (FAR, FAR + 1)):
            self.assertIs(is_ratio(pair), True)
        for pair in ((0, 2), (2, 4), (1, 0), (1, -1), (0, 0), (0, -1), (-1, -1), (-2, 4), (3, 3), (-3, 3), (1, -2),
                     (FAR, 0), (FAR, FAR), (FAR, -FAR), (2 * FAR, 3 * FAR), (0, FAR), (1, -FAR), (-1, 0)):
            self.assertIs(is_ratio(pair), False)

    def test_all_small_pairs(self):
        for top in range(-20, 21):
            for bottom in range(-20, 21):
                self.assertIs(is_ratio((top, bottom)), bottom >= 1 and gcd(top, bottom) == 1)

    def test_great_pairs(self):
        rng = random.Random(704)
        for k in range(500):
            top = drawn_number(rng)
            bottom = drawn_number(rng)
            self.assertIs(is_ratio((top, bottom)), bottom >= 1 and gcd(top, bottom) == 1)
            divisor = rng.randrange(2, 10)
            self.assertIs(is_ratio((top * divisor, bottom * divisor)), False)


class Named(unittest.TestCase):
    def test_arguments_by_their_names(self):
        self.assertEqual(ratio_of(top=4), (4, 1))
        self.assertEqual(ratio_of(bottom=6, top=4), (2, 3))
        self.assertEqual(ratio_of(4, bottom=6), (2, 3))
        self.assertEqual(ratio_plus(other=(1, 2), one=(1, 3)), (5, 6))
        self.assertEqual(ratio_minus(other=(1, 2), one=(1, 3)), (-1, 6))
        self.assertEqual(ratio_times(other=(1, 2), one=(1, 3)), (1, 6))
        self.assertIs(ratio_less(other=(1, 2), one=(1, 3)), True)
        self.assertIs(is_ratio(thing=(2, 3)), True)


if __name__ == "__main__":
    unittest.main()
