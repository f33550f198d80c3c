"""What both kinds of choosers do alike: 6.1 to 6.3, and the bounds and lacks of 6.10."""

import unittest
from fractions import Fraction
from math import gcd

from sharewheel.choosers import Chooser, Rounds, Starts
from sharewheel.errors import NoClass, NoneReady, NoShare, Taken

MOST_SHARE = 10 ** 6


def told(one):
    one = Fraction(one)
    return (one.numerator, one.denominator)


def state(chooser):
    """All that a chooser tells of itself."""
    names = chooser.names()
    of_each = [
        (name, chooser.share_of(name), chooser.part(name), chooser.step(name), chooser.lack(name)) for name in names
    ]
    if isinstance(chooser, Starts):
        return (of_each, chooser.clock(), [chooser.stands(name) for name in names])
    return (of_each, chooser.holder(), chooser.lined(), [chooser.rest(name) for name in names])


class ChooserCase(unittest.TestCase):
    def new_ones(self, most=4):
        return [Starts(most), Rounds(most)]

    def both(self, most=4):
        """A chooser of each kind with the children a, b and c, behind some choices."""
        choosers = self.new_ones(most)
        for chooser in choosers:
            for name, share in (("a", 2), ("b", 1), ("c", 5)):
                chooser.put(name, share)
            for length in (4, 3, 1, 4):
                chooser.choose(["c", "a", "b"])
                chooser.pay(length)
        return choosers

    def assert_refused(self, chooser, error, method, *values):
        before = state(chooser)
        with self.assertRaises(error) as caught:
            getattr(chooser, method)(*values)
        self.assertIs(type(caught.exception), error)
        self.assertEqual(state(chooser), before)

    def assert_fraction(self, one, wanted):
        self.assertIs(type(one), tuple)
        self.assertEqual([type(part) for part in one], [int, int])
        self.assertGreaterEqual(one[1], 1)
        self.assertEqual(gcd(one[0], one[1]), 1)
        self.assertEqual(one, told(wanted))


class Kinds(ChooserCase):
    def test_both_stand_under_one_base(self):
        self.assertTrue(issubclass(Starts, Chooser))
        self.assertTrue(issubclass(Rounds, Chooser))
        self.assertFalse(issubclass(Starts, Rounds) or issubclass(Rounds, Starts))

    def test_most(self):
        for most in (1, 4, 10 ** 6):
            for chooser in self.new_ones(most):
                self.assertEqual(chooser.most, most)

    def test_most_may_be_read_between_choice_and_pay(self):
        for chooser in self.both():
            chooser.choose(["a"])
            self.assertEqual(chooser.most, 4)
            chooser.pay(4)
            self.assertEqual(chooser.most, 4)


class Children(ChooserCase):
    def test_none_at_first(self):
        for chooser in self.new_ones():
            self.assertEqual(chooser.names(), [])

    def test_the_order_is_that_of_putting_in(self):
        for chooser in self.new_ones():
            for name in ("z", "a", "m", ""):
                self.assertIsNone(chooser.put(name, 1))
            self.assertEqual(chooser.names(), ["z", "a", "m", ""])
            self.assertIs(type(chooser.names()), list)

    def test_the_order_stays_whatever_is_done(self):
        for chooser in self.both():
            self.assertEqual(chooser.names(), ["a", "b", "c"])
            chooser.reshare("a", 9)
            self.assertEqual(chooser.names(), ["a", "b", "c"])
            chooser.take("a")
            self.assertEqual(chooser.names(), ["b", "c"])
            chooser.put("a", 2)
            self.assertEqual(chooser.names(), ["b", "c", "a"])

    def test_shares(self):
        for chooser in self.new_ones():
            chooser.put("least", 1)
            chooser.put("most", MOST_SHARE)
            self.assertEqual((chooser.share_of("least"), chooser.share_of("most")), (1, MOST_SHARE))
            self.assertIsNone(chooser.reshare("least", MOST_SHARE))
            self.assertIsNone(chooser.reshare("most", 1))
            self.assertEqual((chooser.share_of("least"), chooser.share_of("most")), (MOST_SHARE, 1))

    def test_taken_out(self):
        for chooser in self.both():
            self.assertIsNone(chooser.take("b"))
            self.assertEqual(chooser.names(), ["a", "c"])
            self.assert_refused(chooser, NoClass, "share_of", "b")
            self.assert_refused(chooser, NoClass, "take", "b")

    def test_all_taken_out(self):
        for chooser in self.both():
            for name in ("c", "a", "b"):
                chooser.take(name)
            self.assertEqual(chooser.names(), [])
            self.assert_refused(chooser, NoClass, "choose", ["a"])
            chooser.put("a", 3)
            self.assertEqual(chooser.choose(["a"]), "a")

    def test_put_in_again_is_a_new_child(self):
        for chooser in self.both():
            chooser.take("a")
            chooser.put("a", 7)
            self.assertEqual(chooser.share_of("a"), 7)
            self.assert_fraction(chooser.step("a"), Fraction(4, 7))
            if isinstance(chooser, Rounds):
                self.assertEqual((chooser.rest("a"), chooser.lined()[-1]), (0, "a"))
            else:
                self.assertEqual(chooser.stands("a"), chooser.clock())

    def test_parts(self):
        for chooser in self.both():
            self.assert_fraction(chooser.part("a"), Fraction(1, 4))
            self.assert_fraction(chooser.part("b"), Fraction(1, 8))
            self.assert_fraction(chooser.part("c"), Fraction(5, 8))
            chooser.take("c")
            self.assert_fraction(chooser.part("a"), Fraction(2, 3))
            chooser.reshare("b", 2)
            self.assert_fraction(chooser.part("a"), Fraction(1, 2))
            chooser.take("a")
            self.assert_fraction(chooser.part("b"), 1)

    def test_choosers_are_apart(self):
        for chooser, other in zip(self.new_ones(), self.new_ones()):
            chooser.put("a", 1)
            self.assertEqual(other.names(), [])


class Refusals(ChooserCase):
    def test_put(self):
        for chooser in self.both():
            for share in (1, 2, 0, MOST_SHARE + 1, -5):
                self.assert_refused(chooser, Taken, "put", "a", share)
            for share in (0, -1, MOST_SHARE + 1, 10 ** 39):
                self.assert_refused(chooser, NoShare, "put", "new", share)
            self.assertEqual(chooser.names(), ["a", "b", "c"])

    def test_take(self):
        for chooser in self.both():
            self.assert_refused(chooser, NoClass, "take", "new")
            self.assert_refused(chooser, NoClass, "take", "")

    def test_reshare(self):
        for chooser in self.both():
            for share in (1, 0, MOST_SHARE + 1):
                self.assert_refused(chooser, NoClass, "reshare", "new", share)
            for share in (0, -1, MOST_SHARE + 1):
                self.assert_refused(chooser, NoShare, "reshare", "a", share)

    def test_a_name_that_does_not_stand(self):
        for chooser in self.both():
            own = ("stands",) if isinstance(chooser, Starts) else ("rest",)
            for method in ("share_of", "part", "step", "lack") + own:
                self.assert_refused(chooser, NoClass, method, "new")
            self.assert_refused(chooser, NoClass, "bound", "a", "new")
            self.assert_refused(chooser, NoClass, "bound", "new", "a")
            self.assert_refused(chooser, NoClass, "bound", "new", "newer")

    def test_choose(self):
        for chooser in self.both():
            self.assert_refused(chooser, NoneReady, "choose", [])
            self.assert_refused(chooser, NoClass, "choose", ["new"])
            self.assert_refused(chooser, NoClass, "choose", ["a", "b", "new"])
            self.assert_refused(chooser, NoClass, "choose", ["new", "a", "b"])
        for chooser in self.new_ones():
            self.assert_refused(chooser, NoneReady, "choose", [])
            self.assert_refused(chooser, NoClass, "choose", ["a"])

    def test_a_refused_choice_changes_no_later_one(self):
        for kind in (Starts, Rounds):
            runs = []
            for disturbed in (False, True):
                chooser = kind(4)
                chooser.put("a", 2)
                chooser.put("b", 1)
                run = []
                for turn in range(12):
                    if disturbed:
                        self.assert_refused(chooser, NoneReady, "choose", [])
                        self.assert_refused(chooser, NoClass, "choose", ["b", "c"])
                        self.assert_refused(chooser, NoShare, "reshare", "a", 0)
                    run.append(chooser.choose(["a", "b"]))
                    chooser.pay(3)
                runs.append(run)
            self.assertEqual(runs[0], runs[1])


class Choices(ChooserCase):
    def test_one_of_the_ready_is_answered(self):
        for chooser in self.both():
            for ready in (["a"], ["b"], ["c"], ["c", "b"], ["a", "c"], ["b", "a"]):
                self.assertIn(chooser.choose(ready), ready)
                self.assertIsNone(chooser.pay(2))

    def test_the_order_of_the_ready_does_not_count(self):
        for kind in (Starts, Rounds):
            runs = []
            for ready in (["a", "b", "c"], ["c", "b", "a"], ["b", "c", "a"]):
                chooser = kind(4)
                for name, share in (("b", 2), ("c", 2), ("a", 1)):
                    chooser.put(name, share)
                run = []
                for turn in range(20):
                    run.append(chooser.choose(ready))
                    chooser.pay(1 + turn % 4)
                runs.append(run)
            self.assertEqual(runs[0], runs[1])
            self.assertEqual(runs[0], runs[2])

    def test_the_list_of_the_ready_stays(self):
        for chooser in self.both():
            ready = ["c", "a", "b"]
            for turn in range(5):
                chooser.choose(ready)
                chooser.pay(4)
                self.assertEqual(ready, ["c", "a", "b"])

    def test_later_changes_of_the_ready_do_not_reach_it(self):
        for chooser, other in zip(self.both(), self.both()):
            ready = ["a", "b"]
            other.choose(["a", "b"])
            chooser.choose(ready)
            ready.clear()
            chooser.pay(2)
            other.pay(2)
            self.assertEqual(state(chooser), state(other))


class New(ChooserCase):
    def test_told_lists_are_the_askers_own(self):
        for chooser in self.both():
            before = state(chooser)
            names = chooser.names()
            names.append("more")
            names.pop(0)
            if isinstance(chooser, Rounds):
                chooser.lined().clear()
            self.assertEqual(state(chooser), before)
            kept = chooser.names()
            chooser.take("a")
            self.assertEqual(kept, ["a", "b", "c"])

    def test_tuples_are_new_each_time(self):
        for chooser in self.both():
            asks = [lambda: chooser.part("a"), lambda: chooser.step("a"), lambda: chooser.lack("a")]
            asks.append(lambda: chooser.bound("a", "b"))
            if isinstance(chooser, Starts):
                asks += [chooser.clock, lambda: chooser.stands("a"), Starts(4).clock]
            for ask in asks:
                self.assertIsNot(ask(), ask())
                self.assertEqual(ask(), ask())

    def test_asking_changes_nothing(self):
        for chooser, other in zip(self.both(), self.both()):
            for turn in range(6):
                self.assertEqual(state(chooser), state(chooser))
                chooser.bound("a", "c")
                self.assertEqual(chooser.choose(["a", "b", "c"]), other.choose(["a", "b", "c"]))
                chooser.pay(3)
                other.pay(3)


class Bounds(ChooserCase):
    def test_of_starts(self):
        chooser = Starts(6)
        chooser.put("a", 2)
        chooser.put("b", 4)
        self.assert_fraction(chooser.bound("a", "b"), Fraction(9, 2))
        self.assert_fraction(chooser.bound("b", "a"), Fraction(9, 2))
        chooser.reshare("b", 5)
        self.assert_fraction(chooser.bound("a", "b"), Fraction(21, 5))

    def test_of_rounds(self):
        chooser = Rounds(6)
        chooser.put("a", 2)
        chooser.put("b", 4)
        self.assert_fraction(chooser.bound("a", "b"), Fraction(21, 2))
        self.assert_fraction(chooser.bound("b", "a"), Fraction(21, 2))
        chooser.reshare("b", 5)
        self.assert_fraction(chooser.bound("a", "b"), Fraction(51, 5))

    def test_others_do_not_count(self):
        for chooser in self.both():
            before = chooser.bound("a", "b")
            chooser.reshare("c", 1)
            chooser.put("d", 9)
            self.assertEqual(chooser.bound("a", "b"), before)

    def test_behind_a_charge_with_a_lesser_share(self):
        for kind, wanted in ((Starts, 4 + 5), (Rounds, 1 + 6 + 6)):
            chooser = kind(6)
            chooser.put("a", 1)
            chooser.put("b", 1)
            chooser.choose(["a"])
            chooser.pay(4)
            chooser.choose(["b"])
            chooser.pay(5)
            chooser.reshare("a", 6)
            if kind is Starts:
                chooser.reshare("b", 3)
            self.assert_fraction(chooser.bound("a", "b"), wanted)


class Lacks(ChooserCase):
    def test_of_one_child_alone(self):
        for chooser in self.new_ones(6):
            chooser.put("a", 5)
            self.assert_fraction(chooser.lack("a"), 0)

    def test_of_starts(self):
        chooser = Starts(4)
        chooser.put("a", 2)
        chooser.put("b", 1)
        # 2/3 of 4 + 1 * 2, and 1/3 of 4 + 2 * 4.
        self.assert_fraction(chooser.lack("a"), 4)
        self.assert_fraction(chooser.lack("b"), 4)
        chooser.put("c", 5)
        # 2/8 of 8 + 6 * 2, 1/8 of 8 + 7 * 4, 5/8 of 8 + 3 * 4/5.
        self.assert_fraction(chooser.lack("a"), 5)
        self.assert_fraction(chooser.lack("b"), Fraction(9, 2))
        self.assert_fraction(chooser.lack("c"), Fraction(13, 2))

    def test_of_rounds(self):
        chooser = Rounds(4)
        chooser.put("a", 2)
        chooser.put("b", 1)
        # 2/3 of 4 + 1 * 6, and 1/3 of 4 + 2 * 8.
        self.assert_fraction(chooser.lack("a"), Fraction(20, 3))
        self.assert_fraction(chooser.lack("b"), Fraction(20, 3))
        chooser.put("c", 5)
        # 2/8 of 8 + 6 * 6, 1/8 of 8 + 7 * 8, 5/8 of 8 + 3 * 24/5.
        self.assert_fraction(chooser.lack("a"), 11)
        self.assert_fraction(chooser.lack("b"), 8)
        self.assert_fraction(chooser.lack("c"), 14)

    def test_behind_a_charge_with_a_lesser_share(self):
        chooser = Starts(6)
        chooser.put("a", 1)
        chooser.put("b", 2)
        chooser.choose(["a"])
        chooser.pay(5)
        chooser.reshare("a", 3)
        # The step of a is 5, not 6/3: 3/5 of 6 + 2 * 5.
        self.assert_fraction(chooser.lack("a"), Fraction(48, 5))
        chooser.take("a")
        chooser.put("a", 3)
        self.assert_fraction(chooser.lack("a"), 6)
        chooser = Rounds(6)
        chooser.put("a", 1)
        chooser.put("b", 2)
        chooser.choose(["a"])
        chooser.pay(5)
        chooser.reshare("a", 3)
        # 3/5 of 6 + 2 * (2 + 6).
        self.assert_fraction(chooser.lack("a"), Fraction(66, 5))

    def test_the_greatest_numbers(self):
        chooser = Starts(10 ** 6)
        chooser.put("a", 1)
        chooser.put("b", MOST_SHARE)
        self.assert_fraction(chooser.lack("a"), Fraction(10 ** 6 + 10 ** 12, 10 ** 6 + 1))
        self.assert_fraction(chooser.lack("b"), Fraction(10 ** 6 * (10 ** 6 + 1), 10 ** 6 + 1))


if __name__ == "__main__":
    unittest.main()
