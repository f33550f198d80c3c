"""The tree in time: who may go (7.5), the choices (7.6) and bringing a tree to a time (7.7), with the curbs of 7.3."""

import unittest

from sharewheel.errors import TooEarly, WheelError
from sharewheel.trees import Tree


def made(most, kind, *classes):
    tree = Tree(most, kind)
    for name, under, inner, share in classes:
        tree.put(name, under, inner, share)
    return tree


def come_all(tree, *comings):
    return [tree.come(name, length) for name, length in comings]


def order(tree):
    return "".join(name for start, number, name in tree.goings())


def starts(tree):
    return [start for start, number, name in tree.goings()]


def able(tree, *names):
    return [name for name in names if tree.may_go(name)]


class MayGo(unittest.TestCase):
    def setUp(self):
        self.tree = made(
            4, "starts", ("in", "road", "rounds", 1), ("a", "in", "leaf", 1), ("b", "in", "leaf", 1),
            ("out", "road", "starts", 1), ("deep", "out", "starts", 1), ("c", "deep", "leaf", 1),
            ("d", "road", "leaf", 1),
        )
        self.names = ("road", "in", "a", "b", "out", "deep", "c", "d")

    def able(self):
        return able(self.tree, *self.names)

    def test_nobody_without_pieces(self):
        self.assertEqual(self.able(), [])
        for name in self.names:
            self.assertIs(self.tree.may_go(name), False)

    def test_who_has_a_piece_and_all_above_it(self):
        self.tree.come("c", 1)
        self.assertEqual(self.able(), ["road", "out", "deep", "c"])
        self.tree.come("b", 1)
        self.assertEqual(self.able(), ["road", "in", "b", "out", "deep", "c"])
        self.assertIs(self.tree.may_go("road"), True)
        self.assertIs(self.tree.may_go("b"), True)
        self.tree.until(1)
        self.assertEqual(self.tree.goings(), [(0, 1, "b")])
        self.assertEqual(self.able(), ["road", "out", "deep", "c"])
        self.tree.take("c")
        self.assertEqual(able(self.tree, "road", "in", "a", "b", "out", "deep", "d"), [])

    def test_be_the_road_free_or_not(self):
        come_all(self.tree, ("d", 4), ("a", 1))
        self.tree.until(1)
        self.assertEqual(self.tree.goings(), [(0, 1, "a")])
        self.tree.come("a", 2)
        self.tree.until(2)
        self.assertEqual(self.tree.goings(), [(0, 1, "a"), (1, 0, "d")])
        for time in (2, 3, 4, 5):
            self.tree.until(time)
            self.assertEqual(self.able(), ["road", "in", "a"])
        self.tree.until(6)
        self.assertEqual(self.able(), [])

    def test_a_curb_that_holds_and_one_that_does_not(self):
        self.tree.curb("a", 4, (1, 3))
        come_all(self.tree, ("a", 4), ("a", 1), ("a", 3))
        self.assertEqual(self.able(), ["road", "in", "a"])
        # The first goes at 0; the level is 1 from 3 on, when the second may go, and 4/3 at 4, when it goes.
        for time, told in ((1, []), (2, []), (3, ["road", "in", "a"]), (4, ["road", "in", "a"])):
            self.tree.until(time)
            self.assertEqual((time, self.able()), (time, told))
        # At 4 a third is left, and 3 are there at 12.
        for time, told in ((5, []), (11, []), (12, ["road", "in", "a"]), (13, [])):
            self.tree.until(time)
            self.assertEqual((time, self.able()), (time, told))
        self.assertEqual(self.tree.goings(), [(0, 0, "a"), (4, 1, "a"), (12, 2, "a")])

    def test_the_first_piece_alone_is_looked_at(self):
        self.tree.curb("a", 4, (1, 2))
        come_all(self.tree, ("a", 4), ("a", 4), ("a", 1))
        self.tree.until(5)
        # The level is 5/2: enough for the last piece, but not for the one ahead of it.
        self.assertEqual(self.able(), [])

    def test_a_curb_above_counts_for_all_below_it(self):
        self.tree.curb("in", 4, (1, 2))
        come_all(self.tree, ("a", 4), ("b", 2), ("a", 4), ("c", 1))
        self.tree.until(1)
        self.assertEqual(self.tree.goings(), [(0, 0, "a")])
        self.assertEqual(self.able(), ["road", "out", "deep", "c"])
        self.tree.until(4)
        # The level is 2: the piece of b is short enough, that of a is not.
        self.assertEqual(self.able(), ["road", "in", "b", "out", "deep", "c"])

    def test_a_curb_below_or_beside_does_not_count(self):
        self.tree.curb("c", 4, (1, 100))
        come_all(self.tree, ("c", 4), ("c", 4), ("d", 1), ("a", 1))
        self.tree.until(1)
        self.assertEqual(self.tree.goings(), [(0, 3, "a")])
        self.tree.until(2)
        self.assertEqual(self.able(), ["road", "d"])

    def test_each_curb_on_the_way_is_asked(self):
        for curbed, told in (
            (("out",), 13), (("deep",), 13), (("c",), 13), (("out", "c"), 13), (("out", "deep", "c"), 13), ((), 4),
        ):
            with self.subTest(curbed):
                self.setUp()
                for name in ("out", "deep", "c"):
                    self.tree.curb(name, 4, (1, 3) if name in curbed else (1, 1))
                come_all(self.tree, ("c", 4), ("c", 4))
                self.tree.until(11 if curbed else 3)
                self.assertEqual(self.able(), [])
                self.tree.until(12 if curbed else 4)
                self.assertEqual(self.able(), ["road", "out", "deep", "c"])


class Curbs(unittest.TestCase):
    def test_a_depth_of_most_and_more(self):
        for depth, told in ((4, [0, 16, 32]), (5, [0, 12, 28]), (8, [0, 4, 16]), (10 ** 12, [0, 4, 8])):
            with self.subTest(depth):
                tree = made(4, "starts", ("a", "road", "leaf", 1))
                tree.curb("a", depth, (1, 4))
                come_all(tree, ("a", 4), ("a", 4), ("a", 4))
                tree.until(100)
                self.assertEqual(starts(tree), told)

    def test_never_above_the_depth(self):
        tree = made(4, "starts", ("a", "road", "leaf", 1))
        tree.curb("a", 5, (1, 4))
        tree.until(1000)
        come_all(tree, ("a", 4), ("a", 4))
        tree.until(2000)
        self.assertEqual(starts(tree), [1000, 1012])

    def test_one_in_the_place_of_another_is_full_at_the_trees_time(self):
        tree = made(4, "starts", ("a", "road", "leaf", 1))
        tree.curb("a", 4, (1, 100))
        come_all(tree, ("a", 4), ("a", 4), ("a", 4))
        tree.until(50)
        self.assertEqual(starts(tree), [0])
        tree.curb("a", 6, (1, 2))
        tree.until(60)
        # Paid 4 of 6 at 50, the rest of 4 is there at 54.
        self.assertEqual(starts(tree), [0, 50, 54])

    def test_put_on_again_just_the_same(self):
        tree = made(4, "starts", ("a", "road", "leaf", 1))
        tree.curb("a", 4, (1, 100))
        come_all(tree, ("a", 4), ("a", 4))
        tree.until(5)
        tree.curb("a", 4, (1, 100))
        tree.until(6)
        self.assertEqual(starts(tree), [0, 5])

    def test_taken_off(self):
        tree = made(4, "starts", ("a", "road", "leaf", 1))
        tree.curb("a", 4, (1, 100))
        come_all(tree, ("a", 4), ("a", 4), ("a", 4))
        tree.until(7)
        tree.uncurb("a")
        tree.until(100)
        self.assertEqual(starts(tree), [0, 7, 11])

    def test_put_on_while_a_piece_is_on_the_road(self):
        tree = made(4, "starts", ("a", "road", "leaf", 1))
        come_all(tree, ("a", 4), ("a", 4), ("a", 4))
        tree.until(1)
        tree.curb("a", 4, (1, 2))
        tree.until(100)
        self.assertEqual(starts(tree), [0, 4, 12])

    def test_every_curb_on_the_way_is_paid(self):
        tree = made(4, "starts", ("in", "road", "starts", 1), ("a", "in", "leaf", 1), ("b", "in", "leaf", 1))
        tree.curb("in", 8, (1, 10))
        tree.curb("a", 4, (1, 3))
        come_all(tree, ("a", 4), ("a", 4), ("b", 4), ("b", 4))
        tree.until(1000)
        # a pays both at 0; b the upper one at 4, which has 2/5 then. At 40 it has 4: a goes first, from 4 like b.
        self.assertEqual(tree.goings(), [(0, 0, "a"), (4, 2, "b"), (40, 1, "a"), (80, 3, "b")])

    def test_the_lower_curb_holds_back_when_the_upper_is_off(self):
        tree = made(4, "starts", ("in", "road", "starts", 1), ("a", "in", "leaf", 1))
        tree.curb("in", 4, (1, 100))
        tree.curb("a", 4, (1, 5))
        come_all(tree, ("a", 4), ("a", 4), ("a", 4))
        tree.until(1)
        tree.uncurb("in")
        tree.until(30)
        self.assertEqual(starts(tree), [0, 20])
        tree.curb("in", 4, (1, 7))
        tree.uncurb("a")
        tree.until(100)
        self.assertEqual(starts(tree), [0, 20, 30])

    def test_who_may_not_go_is_passed_over(self):
        tree = made(4, "starts", ("a", "road", "leaf", 1), ("b", "road", "leaf", 1))
        tree.curb("a", 4, (1, 5))
        come_all(tree, ("a", 4), ("a", 4), ("b", 4), ("b", 4), ("b", 4), ("b", 4), ("b", 4))
        tree.until(100)
        self.assertEqual(tree.goings()[:2], [(0, 0, "a"), (4, 2, "b")])
        self.assertEqual(order(tree), "abbbbab")
        self.assertEqual(starts(tree), [0, 4, 8, 12, 16, 20, 24])


class Choices(unittest.TestCase):
    def test_the_example_of_starts(self):
        tree = made(4, "starts", ("a", "road", "leaf", 2), ("b", "road", "leaf", 1))
        come_all(tree, *[(name, 4) for name in "aaaaabbb"])
        tree.until(100)
        self.assertEqual(order(tree), "abaabaab")
        self.assertEqual(starts(tree), list(range(0, 32, 4)))

    def test_the_example_of_rounds(self):
        tree = made(4, "rounds", ("a", "road", "leaf", 2), ("b", "road", "leaf", 1))
        come_all(tree, *[(name, 3) for name in "aaaaaabbb"])
        tree.until(100)
        self.assertEqual(order(tree), "aaabbaaab")

    def test_down_two_levels(self):
        tree = made(
            4, "starts", ("x", "road", "rounds", 1), ("y", "road", "leaf", 1), ("a", "x", "leaf", 2),
            ("b", "x", "leaf", 1),
        )
        come_all(tree, *[(name, 4) for name in "aaaabbyyyyyy"])
        tree.until(100)
        self.assertEqual(order(tree), "ayaybyayayby")

    def test_down_three_levels_of_both_kinds(self):
        tree = made(
            4, "rounds", ("p", "road", "starts", 2), ("z", "road", "leaf", 1), ("q", "p", "rounds", 1),
            ("r", "p", "leaf", 2), ("a", "q", "leaf", 1), ("b", "q", "leaf", 1),
        )
        come_all(tree, *[(name, 4) for name in "aabrrrrrrzzzz"])
        tree.until(44)
        # By the road p, p, z; by p: q, r, r; by q: a, b.
        self.assertEqual(order(tree), "arzrbzrrzar")

    def test_five_levels(self):
        classes = [
            ("a", "road", "starts", 1), ("b", "a", "rounds", 1), ("c", "b", "starts", 1), ("d", "c", "rounds", 1),
        ]
        leaves = [("e", "d", "leaf", 1), ("f", "d", "leaf", 1), ("g", "c", "leaf", 1), ("h", "road", "leaf", 1)]
        tree = made(2, "rounds", *classes, *leaves)
        come_all(tree, *[(name, 2) for name in "eefggghhhhhh"])
        tree.until(100)
        # The road by turns a, h; c by turns d, g; d by turns e, f.
        self.assertEqual(order(tree), "ehghfhghehgh")

    def test_every_chooser_on_the_way_is_paid_the_length(self):
        for kind in ("starts", "rounds"):
            with self.subTest(kind):
                tree = made(
                    6, kind, ("x", "road", kind, 1), ("y", "road", "leaf", 1), ("a", "x", "leaf", 1),
                    ("b", "x", "leaf", 1),
                )
                come_all(tree, ("a", 6), ("a", 6), *[("b", 1)] * 6, *[("y", 2)] * 9)
                tree.until(100)
                # The road brings x and y to 6, then by ones and twos to 12, then to 18; within x go a 6, b 6, a 6.
                told = {"starts": "ayyy" "bybbybbyb" "ayyy", "rounds": "ayyy" "bbbbbbyyy" "ayyy"}
                self.assertEqual(order(tree), told[kind])

    def test_the_choosers_beside_the_way_are_not_paid(self):
        tree = made(
            4, "starts", ("x", "road", "starts", 1), ("y", "road", "starts", 1), ("a", "x", "leaf", 1),
            ("b", "x", "leaf", 1),
            ("c", "y", "leaf", 1), ("d", "y", "leaf", 1),
        )
        come_all(tree, ("a", 4), ("a", 4), ("a", 4))
        tree.until(12)
        come_all(tree, ("d", 4), ("d", 4), ("c", 4), ("c", 4))
        tree.until(100)
        self.assertEqual(order(tree), "aaacdcd")

    def test_only_ready_children_are_chosen_among(self):
        tree = made(4, "starts", ("a", "road", "leaf", 1), ("b", "road", "leaf", 1), ("in", "road", "rounds", 1))
        come_all(tree, ("b", 4), ("b", 4))
        tree.until(8)
        self.assertEqual(tree.goings(), [(0, 0, "b"), (4, 1, "b")])

    def test_a_leafs_pieces_go_in_their_order(self):
        tree = made(4, "rounds", ("a", "road", "leaf", 1))
        come_all(tree, ("a", 4), ("a", 1), ("a", 3), ("a", 2))
        tree.until(100)
        self.assertEqual(tree.goings(), [(0, 0, "a"), (4, 1, "a"), (5, 2, "a"), (8, 3, "a")])

    def test_the_road_bears_one_piece_at_a_time(self):
        tree = made(4, "rounds", ("a", "road", "leaf", 1), ("b", "road", "leaf", 1))
        come_all(tree, ("a", 3), ("b", 4), ("a", 1), ("b", 1))
        for time in range(12):
            tree.until(time)
        self.assertEqual(tree.goings(), [(0, 0, "a"), (3, 2, "a"), (4, 1, "b"), (8, 3, "b")])

    def test_a_length_of_one_leaves_the_road_free_at_the_next_time(self):
        tree = made(1, "starts", ("a", "road", "leaf", 1))
        come_all(tree, ("a", 1), ("a", 1), ("a", 1))
        tree.until(3)
        self.assertEqual(starts(tree), [0, 1, 2])


class Times(unittest.TestCase):
    def setUp(self):
        self.tree = made(4, "starts", ("a", "road", "leaf", 1), ("b", "road", "leaf", 2))

    def test_none_at_the_very_time(self):
        self.tree.come("a", 4)
        self.assertIsNone(self.tree.until(0))
        self.assertEqual((self.tree.now(), self.tree.goings(), self.tree.waiting("a")), (0, [], [0]))
        self.tree.until(1)
        self.assertEqual((self.tree.now(), self.tree.goings(), self.tree.waiting("a")), (1, [(0, 0, "a")], []))
        self.tree.come("a", 2)
        self.tree.until(4)
        self.assertEqual((self.tree.now(), len(self.tree.goings())), (4, 1))
        self.tree.until(4)
        self.assertEqual((self.tree.now(), len(self.tree.goings())), (4, 1))
        self.tree.until(5)
        self.assertEqual(self.tree.goings(), [(0, 0, "a"), (4, 1, "a")])

    def test_a_choice_comes_behind_all_that_is_told_at_its_time(self):
        come_all(self.tree, ("a", 3), ("a", 3))
        self.tree.until(3)
        # At 3 the road is free and a stands at 3, but what comes just then is behind at nought.
        self.tree.come("b", 4)
        self.tree.until(100)
        self.assertEqual(self.tree.goings(), [(0, 0, "a"), (3, 2, "b"), (7, 1, "a")])

    def test_a_class_taken_out_at_the_time_of_a_choice(self):
        come_all(self.tree, ("a", 3), ("a", 3), ("b", 2))
        self.tree.until(3)
        self.assertEqual(self.tree.take("b"), [2])
        self.tree.until(100)
        self.assertEqual(self.tree.goings(), [(0, 0, "a"), (3, 1, "a")])

    def test_times_below_its_own(self):
        self.tree.come("a", 4)
        for time in (5, 10 ** 15):
            self.tree.until(time)
            for early in (time - 1, 0, -1, -10 ** 20):
                with self.assertRaises(WheelError) as caught:
                    self.tree.until(early)
                self.assertIs(type(caught.exception), TooEarly)
                self.assertEqual((self.tree.now(), self.tree.goings()), (time, [(0, 0, "a")]))
        twin = made(4, "starts", ("a", "road", "leaf", 1))
        with self.assertRaises(TooEarly):
            twin.until(-1)
        self.assertEqual(twin.now(), 0)

    def test_nothing_ready_for_a_while_then_something(self):
        self.tree.until(7)
        self.assertEqual((self.tree.now(), self.tree.goings()), (7, []))
        self.tree.come("a", 4)
        self.tree.until(9)
        self.tree.come("b", 1)
        self.tree.until(50)
        self.tree.come("b", 2)
        self.tree.until(51)
        self.assertEqual(self.tree.goings(), [(7, 0, "a"), (11, 1, "b"), (50, 2, "b")])

    def test_in_one_stride_or_in_many(self):
        tree = made(4, "starts", ("a", "road", "leaf", 1), ("b", "road", "leaf", 2))
        for one in (tree, self.tree):
            one.curb("a", 5, (2, 7))
            come_all(one, *[("a", 1 + count % 4) for count in range(9)], *[("b", 4 - count % 3) for count in range(5)])
        tree.until(200)
        for time in range(201):
            self.tree.until(time)
            self.assertEqual(self.tree.goings(), [going for going in tree.goings() if going[0] < time])
        self.assertEqual(len(tree.goings()), 14)

    def test_a_time_far_on_is_told_at_once(self):
        tree = made(10 ** 6, "rounds", ("in", "road", "starts", 1), ("a", "in", "leaf", 1), ("b", "road", "leaf", 3))
        tree.curb("in", 10 ** 6, (1, 10 ** 6))
        come_all(tree, *[("a", 10 ** 6)] * 300, *[("b", 10 ** 6)] * 100)
        tree.until(10 ** 15)
        goings = tree.goings()
        self.assertEqual(len(goings), 400)
        self.assertEqual([start for start, number, name in goings if name == "a"], [k * 10 ** 12 for k in range(300)])
        self.assertEqual(starts(tree)[:101], [k * 10 ** 6 for k in range(101)])

    def test_a_wait_ends_at_a_whole_time(self):
        tree = made(3, "starts", ("a", "road", "leaf", 1))
        tree.curb("a", 3, (2, 7))
        come_all(tree, ("a", 3), ("a", 3), ("a", 3))
        tree.until(100)
        # 3 are there 21/2 ticks behind 0, so at 11, when 1/7 is over the depth and lost.
        self.assertEqual(starts(tree), [0, 11, 22])

    def test_what_is_left_over_counts(self):
        tree = made(3, "starts", ("a", "road", "leaf", 1))
        tree.curb("a", 4, (2, 7))
        come_all(tree, ("a", 3), ("a", 3), ("a", 3))
        tree.until(100)
        # From 1 on at 0 there are 3 at 7; from 0 at 7 on there are 22/7 at 18; the fourth waits no more.
        self.assertEqual(starts(tree), [0, 7, 18])
        tree.come("a", 3)
        self.assertTrue(tree.may_go("a"))

    def test_goings_in_order(self):
        come_all(self.tree, ("a", 1), ("b", 2), ("a", 3), ("b", 4))
        self.tree.until(3)
        early = self.tree.goings()
        self.tree.until(100)
        self.assertEqual(self.tree.goings()[:len(early)], early)
        self.assertEqual(starts(self.tree), sorted(starts(self.tree)))
        for going in self.tree.goings():
            self.assertIs(type(going), tuple)
            self.assertEqual([type(part) for part in going], [int, int, str])


if __name__ == "__main__":
    unittest.main()
