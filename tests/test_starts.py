"""Choosers by starts: 6.4 to 6.6."""

import unittest
from fractions import Fraction
from math import gcd

from sharewheel.choosers import Starts


def told(one):
    one = Fraction(one)
    return (one.numerator, one.denominator)


def starts_with(most, *children):
    chooser = Starts(most)
    for name, share in children:
        chooser.put(name, share)
    return chooser


class StartsCase(unittest.TestCase):
    def assert_fraction(self, one, wanted):
        self.assertIs(type(one), tuple)
        self.assertEqual([type(part) for part in one], [int, int])
        self.assertGreaterEqual(one[1], 1)
        self.assertEqual(gcd(one[0], one[1]), 1)
        self.assertEqual(one, told(wanted))

    def assert_state(self, chooser, clock, **stands):
        self.assert_fraction(chooser.clock(), clock)
        self.assertEqual(chooser.names(), list(stands))
        for name, wanted in stands.items():
            self.assert_fraction(chooser.stands(name), wanted)

    def go(self, chooser, ready, wanted, length):
        self.assertEqual(chooser.choose(list(ready)), wanted)
        chooser.pay(length)


class TheExample(StartsCase):
    def test_who_goes(self):
        chooser = starts_with(4, ("a", 2), ("b", 1))
        for wanted in "abaabaab":
            self.go(chooser, "ab", wanted, 4)

    def test_clock_and_stands_at_each_deed(self):
        chooser = starts_with(4, ("a", 2), ("b", 1))
        self.assert_state(chooser, 0, a=0, b=0)
        self.go(chooser, "ab", "a", 4)
        self.assert_state(chooser, 0, a=2, b=0)
        self.go(chooser, "ab", "b", 4)
        self.assert_state(chooser, 0, a=2, b=4)
        self.go(chooser, "ab", "a", 4)
        self.assert_state(chooser, 2, a=4, b=4)
        self.go(chooser, "ab", "a", 4)
        self.assert_state(chooser, 4, a=6, b=4)
        self.go(chooser, "ab", "b", 4)
        self.assert_state(chooser, 4, a=6, b=8)
        self.go(chooser, "ab", "a", 4)
        self.assert_state(chooser, 6, a=8, b=8)


class Ties(StartsCase):
    def test_who_was_put_in_first(self):
        chooser = starts_with(4, ("z", 1), ("a", 1), ("m", 1))
        for wanted in "zamzam":
            self.go(chooser, "maz", wanted, 4)

    def test_of_the_ready_alone(self):
        chooser = starts_with(4, ("z", 1), ("a", 1), ("m", 1))
        self.go(chooser, "ma", "a", 4)
        self.go(chooser, "ma", "m", 4)
        self.go(chooser, "ma", "a", 4)

    def test_put_in_again_stands_behind_the_others(self):
        chooser = starts_with(4, ("z", 1), ("a", 1))
        chooser.take("z")
        chooser.put("z", 1)
        self.go(chooser, "za", "a", 4)
        self.go(chooser, "za", "z", 4)

    def test_an_equal_stand_by_the_clock(self):
        # b has the lesser tag, but both stand at the clock.
        chooser = starts_with(8, ("a", 1), ("b", 1), ("c", 1))
        self.go(chooser, "a", "a", 3)
        self.go(chooser, "b", "b", 2)
        self.go(chooser, "c", "c", 5)
        self.go(chooser, "c", "c", 1)
        self.assert_state(chooser, 5, a=5, b=5, c=6)
        self.go(chooser, "ab", "a", 1)
        self.assert_state(chooser, 5, a=6, b=5, c=6)


class Shares(StartsCase):
    def test_changing_a_share_changes_no_tag(self):
        chooser = starts_with(4, ("a", 2), ("b", 1))
        self.go(chooser, "ab", "a", 4)
        chooser.reshare("a", 1)
        self.assert_state(chooser, 0, a=2, b=0)
        chooser.reshare("a", 8)
        self.assert_state(chooser, 0, a=2, b=0)

    def test_a_charge_is_by_the_share_as_it_is_then(self):
        chooser = starts_with(4, ("a", 2), ("b", 1))
        self.go(chooser, "ab", "a", 4)
        chooser.reshare("a", 4)
        chooser.reshare("b", 3)
        self.go(chooser, "ab", "b", 4)
        self.assert_state(chooser, 0, a=2, b=Fraction(4, 3))
        self.go(chooser, "ab", "b", 1)
        self.assert_state(chooser, Fraction(4, 3), a=2, b=Fraction(5, 3))
        self.go(chooser, "ab", "b", 4)
        self.assert_state(chooser, Fraction(5, 3), a=2, b=3)
        self.go(chooser, "ab", "a", 3)
        self.assert_state(chooser, 2, a=Fraction(11, 4), b=3)


class LateOnes(StartsCase):
    def test_a_child_put_in_late_stands_at_the_clock(self):
        chooser = starts_with(4, ("a", 1))
        for turn in range(3):
            self.go(chooser, "a", "a", 4)
        self.assert_state(chooser, 8, a=12)
        chooser.put("b", 1)
        self.assert_state(chooser, 8, a=12, b=8)
        self.go(chooser, "ab", "b", 3)
        self.go(chooser, "ab", "b", 4)
        self.assert_state(chooser, 11, a=12, b=15)
        self.go(chooser, "ab", "a", 4)
        self.assert_state(chooser, 12, a=16, b=15)

    def test_a_child_that_was_not_ready_for_long(self):
        chooser = starts_with(4, ("a", 1), ("b", 1))
        self.go(chooser, "ab", "a", 4)
        self.go(chooser, "ab", "b", 1)
        for turn in range(4):
            self.go(chooser, "a", "a", 4)
        self.assert_state(chooser, 16, a=20, b=16)
        self.go(chooser, "ab", "b", 4)
        self.assert_state(chooser, 16, a=20, b=20)
        self.go(chooser, "ab", "a", 4)

    def test_the_clock_never_falls(self):
        chooser = starts_with(4, ("a", 1), ("b", 1))
        self.go(chooser, "a", "a", 4)
        self.go(chooser, "a", "a", 4)
        self.assert_state(chooser, 4, a=8, b=4)
        self.go(chooser, "ab", "b", 1)
        self.assert_state(chooser, 4, a=8, b=5)

    def test_the_clock_stays_when_children_are_taken_out(self):
        chooser = starts_with(4, ("a", 1), ("b", 1))
        self.go(chooser, "a", "a", 4)
        self.go(chooser, "a", "a", 4)
        chooser.take("a")
        self.assert_state(chooser, 4, b=4)
        chooser.take("b")
        self.assert_state(chooser, 4)
        chooser.put("a", 2)
        self.assert_state(chooser, 4, a=4)
        self.go(chooser, "a", "a", 3)
        self.assert_state(chooser, 4, a=Fraction(11, 2))


class Steps(StartsCase):
    def test_most_over_the_share_now(self):
        chooser = starts_with(4, ("a", 2), ("b", 3))
        self.assert_fraction(chooser.step("a"), 2)
        self.assert_fraction(chooser.step("b"), Fraction(4, 3))
        chooser.reshare("a", 8)
        self.assert_fraction(chooser.step("a"), Fraction(1, 2))
        chooser.reshare("a", 1)
        self.assert_fraction(chooser.step("a"), 4)

    def test_each_charge_since_it_was_put_in(self):
        chooser = starts_with(4, ("a", 2), ("b", 3))
        self.go(chooser, "a", "a", 3)
        self.assert_fraction(chooser.step("a"), 2)
        chooser.reshare("a", 4)
        self.assert_fraction(chooser.step("a"), Fraction(3, 2))
        self.go(chooser, "a", "a", 4)
        self.assert_fraction(chooser.step("a"), Fraction(3, 2))
        chooser.reshare("a", 1)
        self.assert_fraction(chooser.step("a"), 4)
        self.go(chooser, "a", "a", 2)
        chooser.reshare("a", 4)
        self.assert_fraction(chooser.step("a"), 2)
        self.assert_fraction(chooser.step("b"), Fraction(4, 3))

    def test_a_new_child_has_none(self):
        chooser = starts_with(4, ("a", 1))
        self.go(chooser, "a", "a", 4)
        chooser.reshare("a", 4)
        self.assert_fraction(chooser.step("a"), 4)
        chooser.take("a")
        chooser.put("a", 4)
        self.assert_fraction(chooser.step("a"), 1)


if __name__ == "__main__":
    unittest.main()
