"""Floors: 8.1, 8.3 and 8.5 with their refusals, and 0.2 of what they are told and tell."""

import unittest
from fractions import Fraction

from sharewheel import errors
from sharewheel.choosers import Starts
from sharewheel.floors import floor, greatest_pile, longest_wait, pair_run
from sharewheel.ratios import divisor
from sharewheel.trees import Tree


def number(one):
    return Fraction(one[0], one[1])


def fraction(one):
    return (one.numerator, one.denominator)


def plain_lack(kind, most, shares, own):
    """6.10 by its words, where no child was charged by a lesser share than it has now."""
    step = Fraction(most, own) + (most if kind == "rounds" else 0)
    others = sum(shares) - own
    return Fraction(own, sum(shares)) * ((len(shares) - 1) * most + others * step)


def deep_tree(kinds, most=7):
    """Five levels: at each an inner class (the last one a leaf) of share 2 between leaves of the shares 3 and 1."""
    tree = Tree(most, kinds[0])
    under = "road"
    for level, kind in enumerate(kinds, start=1):
        tree.put("l" * level, under, "leaf", 3)
        tree.put("m" * level, under, kinds[level] if level < len(kinds) else "leaf", 2)
        tree.put("r" * level, under, "leaf", 1)
        under = "m" * level
    return tree


class Floors(unittest.TestCase):
    def test_one_class_alone_has_all(self):
        for kind in ("starts", "rounds"):
            tree = Tree(4, kind)
            tree.put("a", "road", "leaf", 9)
            self.assertEqual(floor(tree, "a"), ((1, 1), (0, 1)))

    def test_by_hand(self):
        tree = Tree(4)
        tree.put("a", "road", "leaf", 2)
        tree.put("in", "road", "rounds", 1)
        tree.put("b", "in", "leaf", 3)
        tree.put("c", "in", "leaf", 1)
        # By starts: (4 + 1 * 2) * 2 / 3, and (4 + 2 * 4) / 3.
        self.assertEqual(floor(tree, "a"), ((2, 3), (4, 1)))
        self.assertEqual(floor(tree, "in"), ((1, 3), (4, 1)))
        # By rounds: 3/4 * (4 + 4/3 + 4) and 1/4 * (4 + 3 * (4 + 4)), each with its part of the 4 above.
        self.assertEqual(floor(tree, "b"), ((1, 4), (10, 1)))
        self.assertEqual(floor(tree, "c"), ((1, 12), (8, 1)))

    def test_one_to_five_deep_of_both_kinds(self):
        for kinds in (
            ("starts",) * 5, ("rounds",) * 5, ("starts", "rounds", "starts", "rounds", "starts"),
            ("rounds", "starts", "rounds", "rounds", "starts"), ("rounds",), ("starts", "rounds"),
        ):
            tree = deep_tree(kinds)
            given = Fraction(1)
            lacking = Fraction(0)
            for level, kind in enumerate(kinds, start=1):
                for letter, share in (("l", 3), ("r", 1), ("m", 2)):
                    part = Fraction(share, 6)
                    own = (given * part, part * lacking + plain_lack(kind, 7, [3, 2, 1], share))
                    with self.subTest(kinds=kinds, level=level, letter=letter):
                        self.assertEqual(floor(tree, letter * level), (fraction(own[0]), fraction(own[1])))
                given = own[0]
                lacking = own[1]

    def test_what_was_charged_counts_by_starts(self):
        tree = Tree(6)
        tree.put("a", "road", "leaf", 1)
        tree.put("b", "road", "leaf", 2)
        tree.come("a", 5)
        tree.until(1)
        tree.reshare("a", 3)
        # The step of a is 5 by its charge, though most over its share is 2 now: 3/5 * (6 + 2 * 5).
        self.assertEqual(floor(tree, "a"), ((3, 5), (48, 5)))

    def test_by_the_shares_as_they_are(self):
        tree = Tree(4)
        tree.put("a", "road", "leaf", 1)
        self.assertEqual(floor(tree, "a"), ((1, 1), (0, 1)))
        tree.put("b", "road", "leaf", 3)
        self.assertEqual(floor(tree, "a"), ((1, 4), (4, 1)))
        tree.reshare("a", 3)
        self.assertEqual(floor(tree, "a"), ((1, 2), (4, 1)))
        tree.take("b")
        self.assertEqual(floor(tree, "a"), ((1, 1), (0, 1)))

    def test_refused_as_a_way_is(self):
        tree = deep_tree(("starts", "rounds"))
        for name in ("road", "nobody", "", "A"):
            with self.subTest(name), self.assertRaises(errors.NoClass):
                floor(tree, name)

    def test_curbs_do_not_count(self):
        tree = deep_tree(("starts", "rounds"))
        before = floor(tree, "mm")
        tree.curb("m", 7, (1, 9))
        self.assertEqual(floor(tree, "mm"), before)

    def test_told_anew(self):
        tree = deep_tree(("starts",))
        told = [floor(tree, "m"), floor(tree, "m")]
        self.assertIsNot(told[0], told[1])
        self.assertIsNot(told[0][0], told[1][0])
        self.assertIsNot(told[0][1], told[1][1])
        self.assertIs(type(told[0]), tuple)


class WaitsAndPiles(unittest.TestCase):
    def setUp(self):
        self.tree = Tree(4)
        self.tree.put("a", "road", "leaf", 2)
        self.tree.put("in", "road", "rounds", 1)
        self.tree.put("b", "in", "leaf", 3)
        self.tree.put("c", "in", "leaf", 1)

    def test_by_hand(self):
        # g and d are 2/3 and 4, then 1/4 and 10.
        self.assertEqual(longest_wait(self.tree, "a", (4, (1, 2))), (16, 1))
        self.assertEqual(greatest_pile(self.tree, "a", (4, (1, 2))), (32, 3))
        self.assertEqual(longest_wait(self.tree, "b", (5, (0, 1))), (64, 1))
        self.assertEqual(greatest_pile(self.tree, "b", (5, (0, 1))), (16, 1))

    def test_by_the_floor(self):
        for kinds in (("starts",) * 5, ("rounds",) * 5, ("rounds", "starts", "starts", "rounds", "rounds")):
            tree = deep_tree(kinds)
            for level in range(1, 6):
                for name in ("l" * level, "r" * level):
                    given, lacking = [number(one) for one in floor(tree, name)]
                    for burst in (1, 7, 10 ** 12):
                        with self.subTest(kinds=kinds, name=name, burst=burst):
                            line = (burst, fraction(given / 2))
                            wait = 7 + (burst + lacking) / given
                            self.assertEqual(longest_wait(tree, name, line), fraction(wait))
                            self.assertEqual(greatest_pile(tree, name, line), fraction(burst + lacking + given * 7))

    def refused(self, kind, *given):
        found = []
        for ask in (longest_wait, greatest_pile):
            with self.assertRaises(errors.WheelError) as caught:
                ask(self.tree, *given)
            self.assertIs(type(caught.exception), getattr(errors, kind))
            found.append(caught.exception)
        return found

    def test_no_class(self):
        for name in ("road", "nobody", ""):
            with self.subTest(name):
                self.refused("NoClass", name, (1, (0, 1)))
                self.refused("NoClass", name, (1, (5, 1)))

    def test_no_leaf(self):
        self.refused("NoPlace", "in", (1, (0, 1)))
        self.refused("NoPlace", "in", (1, (5, 1)))
        self.tree.put("hollow", "in", "starts", 1)
        self.refused("NoPlace", "hollow", (1, (0, 1)))
        self.tree.curb("in", 4, (1, 1))
        self.refused("NoPlace", "in", (1, (0, 1)))
        self.refused("NoPlace", "hollow", (1, (5, 1)))

    def test_curbed_by_the_first_on_the_way_down(self):
        self.tree.curb("b", 4, (1, 1))
        for rate in ((0, 1), (5, 1)):
            self.assertEqual([one.name for one in self.refused("Curbed", "b", (1, rate))], ["b", "b"])
        self.tree.curb("in", 4, (1, 1))
        for rate in ((0, 1), (5, 1)):
            self.assertEqual([one.name for one in self.refused("Curbed", "b", (1, rate))], ["in", "in"])
            self.assertEqual([one.name for one in self.refused("Curbed", "c", (1, rate))], ["in", "in"])
        self.tree.uncurb("b")
        self.assertEqual([one.name for one in self.refused("Curbed", "b", (1, (0, 1)))], ["in", "in"])
        self.tree.uncurb("in")
        self.assertEqual(longest_wait(self.tree, "b", (5, (0, 1))), (64, 1))

    def test_curbs_beside_the_way_do_not_count(self):
        self.tree.curb("in", 4, (1, 1))
        self.assertEqual(longest_wait(self.tree, "a", (4, (1, 2))), (16, 1))
        self.tree.uncurb("in")
        self.tree.curb("c", 4, (1, 1))
        self.assertEqual(greatest_pile(self.tree, "b", (5, (0, 1))), (16, 1))

    def test_a_rate_just_g_and_a_little_above_it(self):
        self.assertEqual(longest_wait(self.tree, "b", (5, (1, 4))), (64, 1))
        self.assertEqual(greatest_pile(self.tree, "b", (5, (1, 4))), (16, 1))
        for rate in ((250001, 1000000), (1, 3), (1, 1), (10 ** 30 + 1, 4 * 10 ** 30)):
            for one in self.refused("TooMuch", "b", (5, rate)):
                self.assertEqual((one.asked, one.given), (rate, (1, 4)))
                self.assertIsNot(one.asked, rate)

    def test_what_is_handed_in_stays(self):
        self.tree.come("a", 3)
        self.tree.until(1)
        before = (self.tree.goings(), self.tree.now(), self.tree.below("road"), self.tree.lack("a"))
        floor(self.tree, "b")
        longest_wait(self.tree, "b", (5, (1, 4)))
        greatest_pile(self.tree, "b", (5, (1, 4)))
        self.refused("TooMuch", "b", (5, (1, 1)))
        self.assertEqual((self.tree.goings(), self.tree.now(), self.tree.below("road"), self.tree.lack("a")), before)

    def test_the_names_of_the_arguments(self):
        self.assertEqual(longest_wait(tree=self.tree, name="b", line=(5, (1, 4))), (64, 1))
        self.assertEqual(greatest_pile(tree=self.tree, name="b", line=(5, (1, 4))), (16, 1))
        self.assertEqual(floor(tree=self.tree, name="b"), ((1, 4), (10, 1)))
        self.assertEqual(pair_run(share=1, other=1, most=1)[2], (0, 1))


class PairRuns(unittest.TestCase):
    def test_by_hand(self):
        # x is 6 by 6 / 3 <= 10 / 5; low's steps are 16 / 3, the bound is 10 / 3 + 10 / 5.
        row = [(0, "high", 10), (1, "low", 6), (1, "low", 10), (1, "high", 10)]
        self.assertEqual(pair_run(3, 5, 10), (row, (16, 3), (0, 1)))
        # x is 1 by 1 / 2 <= 4 / 5; the bound is 4 / 2 + 4 / 5, and 3 / 10 above 5 / 2.
        row = [(0, "high", 4), (1, "low", 1), (1, "low", 4), (1, "high", 4)]
        self.assertEqual(pair_run(5, 2, 4), (row, (5, 2), (3, 10)))

    def test_without_a_first_piece(self):
        row = [(0, "high", 4), (1, "low", 4), (1, "high", 4)]
        self.assertEqual(pair_run(1, 5, 4), (row, (4, 1), (4, 5)))
        self.assertEqual(pair_run(1, 10 ** 6, 10 ** 6 - 1)[0][1], (1, "low", 10 ** 6 - 1))
        self.assertEqual(pair_run(1, 10 ** 6, 10 ** 6)[0][1], (1, "low", 1))

    def test_like_shares(self):
        row = [(0, "high", 6), (1, "low", 6), (1, "low", 6), (1, "high", 6)]
        for share in (1, 7, 10 ** 6):
            common = divisor(12, share)
            self.assertEqual(pair_run(share, share, 6), (row, (12 // common, share // common), (0, 1)))

    def test_in_both_orders(self):
        for one, other, most in ((3, 5, 10), (1, 9, 4), (10 ** 6, 1, 10 ** 6), (17, 1000, 999)):
            self.assertEqual(pair_run(one, other, most), pair_run(other, one, most))

    def test_led_through_a_tree(self):
        for one, other, most in (
            (3, 5, 10), (5, 2, 4), (1, 5, 4), (4, 4, 6), (1, 1, 1), (1, 10 ** 6, 10 ** 6), (999, 1000, 10 ** 6),
            (10 ** 6, 10 ** 6, 10 ** 6), (7, 12, 25), (2, 3, 1),
        ):
            with self.subTest(one=one, other=other, most=most):
                self.lead(min(one, other), max(one, other), most, pair_run(one, other, most))

    def lead(self, low, high, most, told):
        row, comes, gap = told
        tree = Tree(most, "starts")
        tree.put("low", "road", "leaf", low)
        tree.put("high", "road", "leaf", high)
        lengths = []
        for at, name, length in row:
            tree.until(at)
            self.assertEqual(tree.come(name, length), len(lengths))
            lengths.append(length)
        # Till the last of low's has begun, a piece of high waits.
        tree.until(most + sum(length for at, name, length in row if name == "low"))
        self.assertEqual(tree.waiting("high"), [len(row) - 1])
        tree.until(10 ** 9)
        order = [name for start, which, name in tree.goings()]
        self.assertEqual(order, ["high"] + ["low"] * (len(row) - 2) + ["high"])
        steps = [Fraction(lengths[which], low) for start, which, name in tree.goings() if name == "low"]
        self.assertEqual(fraction(sum(steps)), comes)
        bound = Fraction(most, low) + Fraction(most, high)
        self.assertEqual(fraction(bound - sum(steps)), gap)
        self.assertGreaterEqual(gap[0], 0)
        chooser = Starts(most)
        chooser.put("low", low)
        chooser.put("high", high)
        self.assertEqual(number(chooser.bound("low", "high")), bound)

    def test_x_is_the_greatest(self):
        for low in range(1, 9):
            for high in range(low, 12):
                for most in range(1, 12):
                    row = pair_run(low, high, most)[0]
                    first = max(x for x in range(most + 1) if Fraction(x, low) <= Fraction(most, high))
                    self.assertEqual([length for at, name, length in row if name == "low"], [first, most][first == 0:])

    def test_shares_and_most_out_of_their_ranges(self):
        for share in (0, -1, 10 ** 6 + 1, 10 ** 30):
            for most in (0, 1, 10 ** 6 + 1):
                for given in ((share, 1), (1, share), (share, share)):
                    with self.subTest(given=given, most=most), self.assertRaises(errors.NoShare):
                        pair_run(*given, most)
        for most in (0, -1, 10 ** 6 + 1, 10 ** 30):
            with self.subTest(most), self.assertRaises(errors.NoLength):
                pair_run(1, 10 ** 6, most)

    def test_told_anew(self):
        told = [pair_run(2, 3, 5), pair_run(2, 3, 5)]
        for one, other in zip(told[0], told[1]):
            self.assertIsNot(one, other)
        for one, other in zip(told[0][0], told[1][0]):
            self.assertIsNot(one, other)
        told[0][0].clear()
        self.assertEqual(pair_run(2, 3, 5), told[1])


if __name__ == "__main__":
    unittest.main()
