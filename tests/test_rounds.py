"""Choosers by rounds: 6.7 to 6.9."""

import unittest

from sharewheel.choosers import Rounds


def rounds_with(most, *children):
    chooser = Rounds(most)
    for name, share in children:
        chooser.put(name, share)
    return chooser


class RoundsCase(unittest.TestCase):
    def assert_state(self, chooser, holder, lined, **rests):
        self.assertEqual(chooser.holder(), holder)
        self.assertIs(type(chooser.lined()), list)
        self.assertEqual(chooser.lined(), list(lined))
        for name, wanted in rests.items():
            self.assertIs(type(chooser.rest(name)), int)
            self.assertEqual(chooser.rest(name), wanted, name)

    def go(self, chooser, ready, wanted, length):
        self.assertEqual(chooser.choose(list(ready)), wanted)
        chooser.pay(length)


class TheExample(RoundsCase):
    def test_rest_holder_and_line_at_each_deed(self):
        chooser = rounds_with(4, ("a", 2), ("b", 1))
        self.assert_state(chooser, None, "ab", a=0, b=0)
        for rest in (5, 2, -1):
            self.go(chooser, "ab", "a", 3)
            self.assert_state(chooser, "a", "b", a=rest, b=0)
        for rest in (1, -2):
            self.go(chooser, "ab", "b", 3)
            self.assert_state(chooser, "b", "a", a=-1, b=rest)
        for rest in (4, 1, -2):
            self.go(chooser, "ab", "a", 3)
            self.assert_state(chooser, "a", "b", a=rest, b=-2)
        self.go(chooser, "ab", "b", 3)
        self.assert_state(chooser, "b", "a", a=-2, b=-1)
        self.go(chooser, "ab", "a", 3)
        self.assert_state(chooser, "a", "b", a=3, b=-1)


class TheTurn(RoundsCase):
    def test_nobody_has_it_at_first(self):
        self.assert_state(Rounds(4), None, "")
        self.assert_state(rounds_with(4, ("a", 1)), None, "a", a=0)

    def test_a_rest_of_nought_ends_it(self):
        chooser = rounds_with(4, ("a", 1), ("b", 1))
        self.go(chooser, "ab", "a", 4)
        self.assert_state(chooser, "a", "b", a=0, b=0)
        self.go(chooser, "ab", "b", 4)
        self.assert_state(chooser, "b", "a", a=0, b=0)

    def test_a_rest_of_one_keeps_it(self):
        chooser = rounds_with(4, ("a", 1), ("b", 1))
        self.go(chooser, "ab", "a", 3)
        self.assert_state(chooser, "a", "b", a=1)
        self.go(chooser, "ab", "a", 4)
        self.assert_state(chooser, "a", "b", a=-3)

    def test_alone_it_comes_again(self):
        chooser = rounds_with(4, ("a", 1), ("b", 1))
        self.go(chooser, "a", "a", 3)
        self.go(chooser, "a", "a", 3)
        self.assert_state(chooser, "a", "b", a=-2)
        self.go(chooser, "a", "a", 1)
        self.assert_state(chooser, "a", "b", a=1, b=0)

    def test_the_holder_is_not_ready(self):
        chooser = rounds_with(4, ("a", 2), ("b", 1), ("c", 1))
        self.go(chooser, "abc", "a", 3)
        self.assert_state(chooser, "a", "bc", a=5)
        self.go(chooser, "bc", "b", 1)
        self.assert_state(chooser, "b", "ca", a=0, b=3)
        self.go(chooser, "ac", "c", 1)
        self.assert_state(chooser, "c", "ab", a=0, b=0, c=3)

    def test_a_debt_stays_when_the_turn_ends(self):
        chooser = rounds_with(4, ("a", 1), ("b", 1))
        self.go(chooser, "ab", "a", 1)
        self.go(chooser, "ab", "a", 4)
        self.assert_state(chooser, "a", "b", a=-1)
        self.go(chooser, "b", "b", 1)
        self.assert_state(chooser, "b", "a", a=-1, b=3)

    def test_who_is_not_ready_keeps_its_place(self):
        chooser = rounds_with(4, ("a", 1), ("b", 1), ("c", 1), ("d", 1))
        self.go(chooser, "cd", "c", 4)
        self.assert_state(chooser, "c", "abd", c=0)
        self.go(chooser, "bcd", "b", 4)
        self.assert_state(chooser, "b", "adc")
        self.go(chooser, "abcd", "a", 4)
        self.assert_state(chooser, "a", "dcb")

    def test_the_order_of_the_line_goes_ahead_of_that_of_the_names(self):
        chooser = rounds_with(4, ("z", 1), ("a", 1))
        self.go(chooser, "az", "z", 4)
        self.go(chooser, "az", "a", 4)
        self.go(chooser, "az", "z", 4)


class InAndOut(RoundsCase):
    def test_put_in_at_the_end_of_the_line(self):
        chooser = rounds_with(4, ("a", 1), ("b", 1))
        self.go(chooser, "ab", "a", 4)
        chooser.put("c", 1)
        self.assert_state(chooser, "a", "bc", c=0)
        self.go(chooser, "abc", "b", 4)
        self.assert_state(chooser, "b", "ca")

    def test_taken_out_of_the_line(self):
        chooser = rounds_with(4, ("a", 1), ("b", 1), ("c", 1))
        self.go(chooser, "abc", "a", 1)
        chooser.take("b")
        self.assert_state(chooser, "a", "c", a=3, c=0)
        self.assertEqual(chooser.names(), ["a", "c"])

    def test_the_holder_taken_out(self):
        chooser = rounds_with(4, ("a", 1), ("b", 1), ("c", 1))
        self.go(chooser, "abc", "a", 1)
        chooser.take("a")
        self.assert_state(chooser, None, "bc", b=0, c=0)
        self.go(chooser, "bc", "b", 1)
        self.assert_state(chooser, "b", "c", b=3)

    def test_the_holder_taken_out_and_put_in_again(self):
        chooser = rounds_with(4, ("a", 2), ("b", 1))
        self.go(chooser, "ab", "a", 1)
        chooser.take("a")
        chooser.put("a", 2)
        self.assert_state(chooser, None, "ba", a=0, b=0)
        self.go(chooser, "ab", "b", 1)
        self.assert_state(chooser, "b", "a", a=0, b=3)

    def test_a_debt_is_not_kept_for_a_new_child(self):
        chooser = rounds_with(4, ("a", 1), ("b", 1))
        self.go(chooser, "ab", "a", 3)
        self.go(chooser, "ab", "a", 4)
        chooser.take("a")
        chooser.put("a", 1)
        self.assert_state(chooser, None, "ba", a=0)


class Shares(RoundsCase):
    def test_changed_down_the_rest_comes_down(self):
        chooser = rounds_with(4, ("a", 5), ("b", 1))
        self.go(chooser, "ab", "a", 3)
        self.assert_state(chooser, "a", "b", a=17)
        chooser.reshare("a", 4)
        self.assert_state(chooser, "a", "b", a=16)
        chooser.reshare("a", 1)
        self.assert_state(chooser, "a", "b", a=4)
        chooser.reshare("a", 5)
        self.assert_state(chooser, "a", "b", a=4)

    def test_changed_down_a_lesser_rest_stays(self):
        chooser = rounds_with(4, ("a", 2), ("b", 1))
        self.go(chooser, "ab", "a", 4)
        self.assert_state(chooser, "a", "b", a=4)
        chooser.reshare("a", 1)
        self.assert_state(chooser, "a", "b", a=4)
        self.go(chooser, "ab", "a", 1)
        chooser.reshare("a", 1)
        self.assert_state(chooser, "a", "b", a=3)

    def test_a_debt_stays(self):
        chooser = rounds_with(4, ("a", 1), ("b", 1))
        self.go(chooser, "ab", "a", 3)
        self.go(chooser, "ab", "a", 4)
        chooser.reshare("a", 7)
        self.assert_state(chooser, "a", "b", a=-3)
        self.go(chooser, "ab", "b", 4)
        self.go(chooser, "ab", "a", 1)
        self.assert_state(chooser, "a", "b", a=24)

    def test_changed_up_it_counts_from_the_next_turn_on(self):
        chooser = rounds_with(4, ("a", 1), ("b", 1))
        self.go(chooser, "ab", "a", 3)
        chooser.reshare("a", 3)
        self.assert_state(chooser, "a", "b", a=1)
        self.go(chooser, "ab", "a", 1)
        self.go(chooser, "ab", "b", 4)
        self.go(chooser, "ab", "a", 1)
        self.assert_state(chooser, "a", "b", a=11)

    def test_the_line_stays(self):
        chooser = rounds_with(4, ("a", 1), ("b", 1), ("c", 1))
        self.go(chooser, "abc", "a", 4)
        chooser.reshare("b", 9)
        chooser.reshare("a", 9)
        self.assert_state(chooser, "a", "bc", a=0, b=0, c=0)


class Steps(RoundsCase):
    def test_most_over_the_share_now(self):
        chooser = rounds_with(4, ("a", 2), ("b", 3))
        self.assertEqual((chooser.step("a"), chooser.step("b")), ((2, 1), (4, 3)))
        self.go(chooser, "ab", "a", 4)
        chooser.reshare("a", 8)
        self.assertEqual((chooser.step("a"), chooser.step("b")), ((1, 2), (4, 3)))

    def test_a_rest_just_above_its_least(self):
        chooser = rounds_with(4, ("a", 1), ("b", 1))
        self.go(chooser, "a", "a", 3)
        self.go(chooser, "a", "a", 4)
        self.assert_state(chooser, "a", "b", a=-3)


if __name__ == "__main__":
    unittest.main()
