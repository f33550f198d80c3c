import unittest
from fractions import Fraction
from math import gcd

from sharewheel.errors import NoRatio
from sharewheel.ratios import (
    divisor, greater, lesser, minus, over, plus, ratio, times, total, under, whole_above, whole_below,
)

GREAT = 10 ** 24 + 7
GREATER = 10 ** 39 + 3


def told(number):
    return (number.numerator, number.denominator)


def some_fractions():
    small = {Fraction(top, bottom) for top in range(-7, 8) for bottom in range(1, 6)}
    great = [Fraction(GREAT, GREATER), Fraction(-GREATER, GREAT), Fraction(GREATER), Fraction(1, GREATER)]
    return sorted(small) + great


class FractionCase(unittest.TestCase):
    def assert_fraction(self, one, wanted):
        self.assertIs(type(one), tuple)
        self.assertEqual([type(number) for number in one], [int, int])
        self.assertEqual(one, wanted)
        self.assertGreaterEqual(one[1], 1)
        self.assertEqual(gcd(one[0], one[1]), 1)


class Divisor(unittest.TestCase):
    def test_either_sign_and_turned_about(self):
        for one, other, wanted in ((12, 18, 6), (-12, 18, 6), (12, -18, 6), (-12, -18, 6), (7, 5, 1), (4, 4, 4)):
            with self.subTest(one=one, other=other):
                self.assertEqual(divisor(one, other), wanted)
                self.assertEqual(divisor(other, one), wanted)

    def test_one_nought(self):
        for number in (1, -1, 9, -9, GREATER, -GREATER):
            with self.subTest(number):
                self.assertEqual(divisor(0, number), abs(number))
                self.assertEqual(divisor(number, 0), abs(number))

    def test_two_noughts(self):
        self.assertEqual(divisor(0, 0), 0)

    def test_great_numbers(self):
        one = GREAT * 2 ** 20 * 3
        other = GREAT * 5 ** 9
        self.assertEqual(divisor(one, other), GREAT)
        self.assertEqual(divisor(-other, one), GREAT)
        self.assertEqual(divisor(GREATER * 6, GREATER * 4), GREATER * 2)
        self.assertEqual(divisor(10 ** 20, 10 ** 20 + 1), 1)

    def test_many_pairs(self):
        for one in range(-24, 25):
            for other in range(-24, 25):
                self.assertEqual(divisor(one, other), gcd(one, other))


class Ratio(FractionCase):
    def test_examples(self):
        self.assert_fraction(ratio(6, -4), (-3, 2))
        self.assert_fraction(ratio(0, 7), (0, 1))

    def test_bottoms_below_nought(self):
        self.assert_fraction(ratio(-6, -4), (3, 2))
        self.assert_fraction(ratio(0, -7), (0, 1))
        self.assert_fraction(ratio(5, -1), (-5, 1))
        self.assert_fraction(ratio(-1, -GREATER), (1, GREATER))

    def test_lowest_terms(self):
        for top in range(-20, 21):
            for bottom in range(-20, 21):
                if bottom != 0:
                    self.assert_fraction(ratio(top, bottom), told(Fraction(top, bottom)))
        self.assert_fraction(ratio(GREATER * 6, GREATER * -4), (-3, 2))
        self.assert_fraction(ratio(GREAT, GREATER), told(Fraction(GREAT, GREATER)))

    def test_bottom_nought_is_refused(self):
        for top in (0, 1, -1, GREATER):
            with self.subTest(top), self.assertRaises(NoRatio):
                ratio(top, 0)

    def test_a_new_one_each_time(self):
        self.assertIsNot(ratio(0, 7), ratio(0, 7))


class Reckoning(FractionCase):
    def test_ordinary(self):
        self.assert_fraction(plus((1, 2), (1, 3)), (5, 6))
        self.assert_fraction(minus((1, 2), (1, 3)), (1, 6))
        self.assert_fraction(minus((1, 3), (1, 2)), (-1, 6))
        self.assert_fraction(times((2, 3), (3, 4)), (1, 2))
        self.assert_fraction(over((2, 3), (3, 4)), (8, 9))
        self.assert_fraction(over((2, 3), (-4, 3)), (-1, 2))
        self.assert_fraction(minus((3, 4), (3, 4)), (0, 1))

    def test_many_pairs(self):
        for one in some_fractions():
            for other in some_fractions():
                self.assert_fraction(plus(told(one), told(other)), told(one + other))
                self.assert_fraction(minus(told(one), told(other)), told(one - other))
                self.assert_fraction(times(told(one), told(other)), told(one * other))
                if other != 0:
                    self.assert_fraction(over(told(one), told(other)), told(one / other))

    def test_over_nought_is_refused(self):
        for one in ((0, 1), (1, 2), (-3, 1)):
            with self.subTest(one), self.assertRaises(NoRatio):
                over(one, (0, 1))

    def test_nought_over_another(self):
        self.assert_fraction(over((0, 1), (-3, 4)), (0, 1))


class Comparing(FractionCase):
    def test_under(self):
        for one, other, wanted in (
            ((1, 3), (1, 2), True), ((1, 2), (1, 3), False), ((1, 2), (1, 2), False),
            ((-1, 2), (-1, 3), True), ((-1, 3), (-1, 2), False), ((-1, 2), (0, 1), True),
            ((0, 1), (0, 1), False), ((0, 1), (1, GREATER), True), ((1, GREATER), (0, 1), False),
        ):
            with self.subTest(one=one, other=other):
                self.assertIs(under(one, other), wanted)

    def test_lesser_and_greater(self):
        for one, other in (((1, 3), (1, 2)), ((-1, 2), (-1, 3)), ((-5, 1), (0, 1)), ((0, 1), (1, GREATER))):
            with self.subTest(one=one, other=other):
                self.assert_fraction(lesser(one, other), one)
                self.assert_fraction(lesser(other, one), one)
                self.assert_fraction(greater(one, other), other)
                self.assert_fraction(greater(other, one), other)

    def test_lesser_and_greater_of_equal_ones(self):
        for one in ((0, 1), (-3, 2), (4, 1)):
            with self.subTest(one):
                self.assert_fraction(lesser(one, one), one)
                self.assert_fraction(greater(one, one), one)

    def test_what_is_told_is_not_what_was_handed_in(self):
        one = ratio(1, 3)
        other = ratio(1, 2)
        self.assertIsNot(lesser(one, other), one)
        self.assertIsNot(greater(one, other), other)
        self.assertIsNot(total([one]), one)

    def test_many_pairs(self):
        for one in some_fractions():
            for other in some_fractions():
                self.assertIs(under(told(one), told(other)), one < other)
                self.assert_fraction(lesser(told(one), told(other)), told(min(one, other)))
                self.assert_fraction(greater(told(one), told(other)), told(max(one, other)))


class Total(FractionCase):
    def test_of_none(self):
        self.assert_fraction(total([]), (0, 1))
        self.assertIsNot(total([]), total([]))

    def test_of_one(self):
        self.assert_fraction(total([(-3, 2)]), (-3, 2))

    def test_of_sixty(self):
        self.assert_fraction(total([(1, 60)] * 60), (1, 1))
        many = [Fraction((-1) ** number * GREAT, number + 1) for number in range(60)]
        self.assert_fraction(total([told(one) for one in many]), told(sum(many)))

    def test_that_comes_to_nought(self):
        self.assert_fraction(total([(1, 2), (1, 3), (-5, 6)]), (0, 1))

    def test_the_list_stays(self):
        some = [(1, 2), (-1, 3), (5, 1)]
        total(some)
        self.assertEqual(some, [(1, 2), (-1, 3), (5, 1)])


class Whole(unittest.TestCase):
    def assert_whole(self, one, below, above):
        with self.subTest(one):
            self.assertEqual((whole_below(one), whole_above(one)), (below, above))
            self.assertEqual((type(whole_below(one)), type(whole_above(one))), (int, int))

    def test_examples(self):
        self.assert_whole((-7, 2), -4, -3)
        self.assert_whole((6, 1), 6, 6)

    def test_below_and_above_nought(self):
        self.assert_whole((7, 2), 3, 4)
        self.assert_whole((1, 3), 0, 1)
        self.assert_whole((-1, 3), -1, 0)
        self.assert_whole((-22, 7), -4, -3)

    def test_whole_ones(self):
        for number in (0, 1, -1, -6, GREATER, -GREATER):
            self.assert_whole((number, 1), number, number)

    def test_beside_a_whole_number(self):
        for whole in (0, 3, -3, GREAT):
            for bottom in (2, 7, GREATER):
                self.assert_whole((whole * bottom + 1, bottom), whole, whole + 1)
                self.assert_whole((whole * bottom - 1, bottom), whole - 1, whole)


if __name__ == "__main__":
    unittest.main()
