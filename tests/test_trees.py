"""The classes of a tree: 7.1 to 7.4, with their refusals, and 0.2 of what a tree is told and tells."""

import itertools
import unittest

from sharewheel import errors
from sharewheel.choosers import Rounds, Starts
from sharewheel.trees import Tree

NO_NAMES = (
    "", "abcdefghi", "A", "aB", "a1", "1", "a b", " ", "a_b", "_", "a-b", "a\n", "\n", "a.", "\u00e4", "\u00df",
    "\u0430", "\uff41", "a" * 60,
)


def class_names(tree, under="road"):
    found = []
    for name in tree.below(under):
        found.append(name)
        found.extend(class_names(tree, name))
    return found


def is_leaf(tree, name):
    try:
        tree.waiting(name)
    except errors.NoPlace:
        return False
    return True


def state(tree):
    found = [tree.most, tree.now(), tree.goings(), tree.below("road"), tree.may_go("road")]
    for name in class_names(tree):
        found.append((
            name, tree.way(name), tree.below(name), tree.part(name), tree.lack(name), tree.curbed(name),
            tree.may_go(name), tree.waiting(name) if is_leaf(tree, name) else None,
        ))
    return found


def grown():
    """A tree with inner classes, leaves, a curb, a room, goings and what waits; made twice, twins."""
    tree = Tree(10, "rounds")
    tree.put("in", "road", "starts", 3)
    tree.put("a", "in", "leaf", 2)
    tree.put("b", "in", "leaf", 5, 12)
    tree.put("c", "road", "leaf", 1)
    tree.put("hollow", "road", "rounds", 7)
    tree.put("deepa", "hollow", "starts", 1)
    tree.put("deepb", "deepa", "starts", 1)
    tree.put("deepc", "deepb", "starts", 1)
    tree.put("deepd", "deepc", "starts", 1)
    tree.curb("in", 15, (1, 3))
    for name, length in (("a", 10), ("b", 4), ("a", 3), ("c", 9), ("b", 8), ("c", 1), ("a", 2)):
        tree.come(name, length)
    tree.until(6)
    return tree


class Refusals(unittest.TestCase):
    def refused(self, kind, method, *given):
        """The refusal is of just that kind, and what is refused changes nothing, seen or unseen."""
        tree = grown()
        twin = grown()
        with self.assertRaises(errors.WheelError) as caught:
            getattr(tree, method)(*given)
        self.assertIs(type(caught.exception), getattr(errors, kind), (method, given))
        self.assertEqual(state(tree), state(twin))
        for one in (tree, twin):
            self.assertEqual(one.come("c", 5), 7)
            one.until(1000)
        self.assertEqual(state(tree), state(twin))


class Making(unittest.TestCase):
    def test_most_from_one_to_a_million(self):
        for most in (1, 2, 10 ** 6):
            with self.subTest(most):
                self.assertEqual(Tree(most).most, most)
        for most in (0, -1, 10 ** 6 + 1, 10 ** 30, -10 ** 30):
            with self.subTest(most), self.assertRaises(errors.NoLength):
                Tree(most)

    def test_the_road_is_of_one_of_two_kinds(self):
        for kind in ("starts", "rounds"):
            with self.subTest(kind):
                tree = Tree(4, kind)
                self.assertEqual((tree.now(), tree.goings(), tree.below("road")), (0, [], []))
                self.assertIs(tree.may_go("road"), False)
        for kind in ("leaf", "", "Starts", "starts ", "start", "round", "road"):
            with self.subTest(kind), self.assertRaises(errors.NoPlace):
                Tree(4, kind)

    def test_most_is_refused_ahead_of_the_kind(self):
        with self.assertRaises(errors.NoLength):
            Tree(0, "leaf")

    def test_the_road_goes_by_starts_where_no_kind_is_told(self):
        self.assertEqual(self.order(Tree(4)), self.order(Tree(4, "starts")))
        self.assertNotEqual(self.order(Tree(4)), self.order(Tree(4, "rounds")))

    def order(self, tree):
        for name in ("a", "b"):
            tree.put(name, "road", "leaf", 2)
            for count in range(4):
                tree.come(name, 4)
        tree.until(100)
        return "".join(name for start, number, name in tree.goings())


class Putting(Refusals):
    def test_names_of_one_to_eight_small_letters(self):
        tree = Tree(1)
        for name in ("a", "z", "abcdefgh", "stuvwxyz", "leaf", "starts", "rounds", "roads", "roa"):
            with self.subTest(name):
                self.assertIsNone(tree.put(name, "road", "leaf", 1))
                self.assertEqual(tree.below("road")[-1], name)

    def test_what_is_no_name(self):
        for name in NO_NAMES:
            with self.subTest(name):
                self.refused("NoName", "put", name, "road", "leaf", 1)

    def test_names_that_stand(self):
        for name in ("a", "b", "c", "in", "deepd", "road"):
            for under in ("road", "in"):
                with self.subTest(name=name, under=under):
                    self.refused("Taken", "put", name, under, "leaf", 1)

    def test_under_a_class_that_stands(self):
        for under in ("nobody", "", "ROAD", "New", "new", "leaf"):
            with self.subTest(under):
                self.refused("NoClass", "put", "new", under, "leaf", 1)

    def test_kinds_that_are_none(self):
        for kind in ("", "Leaf", "road", "leafs", "in", "starts rounds"):
            with self.subTest(kind):
                self.refused("NoPlace", "put", "new", "road", kind, 1)

    def test_nothing_stands_under_a_leaf(self):
        for under in ("a", "c"):
            for kind in ("leaf", "starts", "rounds"):
                with self.subTest(under=under, kind=kind):
                    self.refused("NoPlace", "put", "new", under, kind, 1)

    def test_five_names_on_a_way_and_no_sixth(self):
        self.assertEqual(grown().way("deepd"), ["hollow", "deepa", "deepb", "deepc", "deepd"])
        for kind in ("leaf", "starts", "rounds"):
            with self.subTest(kind):
                self.refused("NoPlace", "put", "new", "deepd", kind, 1)
                tree = grown()
                tree.put("new", "deepc", kind, 1)
                self.assertEqual(tree.way("new"), ["hollow", "deepa", "deepb", "deepc", "new"])

    def test_shares_from_one_to_a_million(self):
        for kind in ("leaf", "starts", "rounds"):
            for share in (0, -1, 10 ** 6 + 1, 10 ** 20):
                with self.subTest(kind=kind, share=share):
                    self.refused("NoShare", "put", "new", "in", kind, share)
            for share in (1, 10 ** 6):
                with self.subTest(kind=kind, share=share):
                    tree = grown()
                    tree.put("new", "in", kind, share)
                    self.assertEqual(tree.part("new")[0] * (7 + share), share * tree.part("new")[1])

    def test_a_leafs_room_is_not_below_nought(self):
        for room in (-1, -10 ** 20):
            with self.subTest(room):
                self.refused("NoLength", "put", "new", "road", "leaf", 1, room)
        for room in (0, 1, 10 ** 20):
            with self.subTest(room):
                grown().put("new", "road", "leaf", 1, room)

    def test_the_room_of_an_inner_class_is_not_looked_at(self):
        for kind in ("starts", "rounds"):
            for room in (-1, 0, 3):
                with self.subTest(kind=kind, room=room):
                    tree = Tree(10)
                    tree.put("in", "road", kind, 1, room)
                    tree.put("a", "in", "leaf", 1)
                    self.assertEqual([tree.come("a", 10), tree.come("a", 10)], [0, 1])

    def test_of_several_refusals_the_first_is_raised(self):
        wrong = (
            ("NoName", "name", "A"), ("NoName", "name", ""), ("Taken", "name", "a"), ("Taken", "name", "road"),
            ("NoClass", "under", "nobody"), ("NoPlace", "kind", "tree"), ("NoPlace", "under", "a"),
            ("NoPlace", "under", "deepd"), ("NoShare", "share", 0), ("NoShare", "share", 10 ** 6 + 1),
            ("NoLength", "room", -1),
        )
        pairs = 0
        for count in range(2, 5):
            for some in itertools.combinations(wrong, count):
                given = {"name": "new", "under": "road", "kind": "leaf", "share": 1, "room": None}
                given.update({field: value for kind, field, value in some})
                # Two faults in one argument can't be handed in at once; a room is looked at of a leaf alone.
                if len({field for kind, field, value in some}) == count:
                    with self.subTest(some=some):
                        self.refused(some[0][0], "put", *given.values())
                        pairs += 1
        self.assertGreater(pairs, 60)

    def test_who_is_put_in_stands_behind_the_others(self):
        tree = grown()
        self.assertEqual(tree.below("road"), ["in", "c", "hollow"])
        tree.put("new", "road", "leaf", 1)
        tree.put("aa", "in", "leaf", 1)
        self.assertEqual(tree.below("road"), ["in", "c", "hollow", "new"])
        self.assertEqual(tree.below("in"), ["a", "b", "aa"])
        self.assertEqual(tree.below("new"), [])
        self.assertEqual(tree.way("aa"), ["in", "aa"])
        self.assertEqual(tree.way("new"), ["new"])

    def test_the_names_of_its_arguments(self):
        tree = Tree(most=4, kind="rounds")
        tree.put(name="a", under="road", kind="leaf", share=1, room=3)
        self.assertIsNone(tree.come(name="a", length=4))
        tree.reshare(name="a", share=2)
        tree.curb(name="a", depth=4, rate=(1, 2))
        tree.until(at=3)
        self.assertEqual((tree.now(), tree.curbed(name="a"), tree.way(name="a")), (3, True, ["a"]))
        tree.uncurb(name="a")
        self.assertEqual((tree.waiting(name="a"), tree.below(name="a"), tree.may_go(name="a")), ([], [], False))
        self.assertEqual((tree.part(name="a"), tree.lack(name="a"), tree.take(name="a")), ((1, 1), (0, 1), []))


class Taking(Refusals):
    def test_only_where_it_has_no_children(self):
        for name in ("in", "hollow", "deepa", "deepc"):
            with self.subTest(name):
                self.refused("NoPlace", "take", name)
        tree = grown()
        for name in ("deepd", "deepc", "deepb", "deepa", "hollow"):
            self.assertEqual(tree.take(name), [])
        self.assertEqual(tree.below("road"), ["in", "c"])

    def test_what_waited_is_told_back_in_order_and_goes_no_more(self):
        tree = Tree(4)
        tree.put("a", "road", "leaf", 1)
        tree.put("b", "road", "leaf", 1)
        for name in ("a", "b", "a", "a", "b", "a"):
            tree.come(name, 4)
        tree.until(1)
        self.assertEqual(tree.take("a"), [2, 3, 5])
        tree.until(100)
        self.assertEqual(tree.goings(), [(0, 0, "a"), (4, 1, "b"), (8, 4, "b")])

    def test_the_piece_on_the_road_stays_there(self):
        tree = Tree(4)
        tree.put("a", "road", "leaf", 1)
        tree.come("a", 4)
        tree.until(1)
        self.assertEqual(tree.take("a"), [])
        tree.put("b", "road", "leaf", 1)
        tree.come("b", 1)
        tree.until(10)
        self.assertEqual(tree.goings(), [(0, 0, "a"), (4, 1, "b")])

    def test_all_of_it_is_gone(self):
        tree = grown()
        self.assertEqual(tree.part("c"), (1, 11))
        tree.take("c")
        self.assertEqual(tree.below("road"), ["in", "hollow"])
        self.assertEqual(tree.part("in"), (3, 10))
        for method in ("take", "uncurb", "curbed", "waiting", "way", "below", "may_go", "part", "lack"):
            with self.subTest(method), self.assertRaises(errors.NoClass):
                getattr(tree, method)("c")

    def test_its_curb_goes_with_it(self):
        tree = Tree(4)
        tree.put("a", "road", "leaf", 1)
        tree.curb("a", 4, (1, 100))
        tree.come("a", 4)
        tree.until(4)
        self.assertEqual(tree.take("a"), [])
        tree.put("a", "road", "leaf", 1)
        self.assertIs(tree.curbed("a"), False)
        tree.come("a", 4)
        tree.until(5)
        self.assertEqual(tree.goings(), [(0, 0, "a"), (4, 1, "a")])

    def test_who_is_put_in_again_is_another_class(self):
        tree = Tree(4)
        tree.put("a", "road", "leaf", 1, 4)
        tree.put("b", "road", "leaf", 1)
        self.assertEqual([tree.come("a", 4), tree.come("a", 1)], [0, None])
        tree.until(4)
        tree.come("a", 3)
        self.assertEqual(tree.take("a"), [1])
        tree.put("a", "road", "starts", 5)
        self.assertEqual((tree.below("road"), tree.below("a"), tree.part("a")), (["b", "a"], [], (5, 6)))
        tree.put("in", "a", "leaf", 1)
        self.assertEqual(tree.way("in"), ["a", "in"])
        tree.take("in")
        tree.take("a")
        tree.put("a", "road", "leaf", 1)
        self.assertEqual(tree.waiting("a"), [])
        self.assertEqual([tree.come("a", 4), tree.come("a", 4)], [2, 3])

    def test_by_starts_the_new_class_has_no_old_tag_and_no_old_steps(self):
        tree = Tree(6)
        tree.put("a", "road", "leaf", 1)
        tree.put("b", "road", "leaf", 2)
        tree.come("a", 6)
        tree.until(1)
        tree.reshare("a", 3)
        # The step of a stays 6 by its charge: (1 * 6 + 2 * 6) * 3 / 5.
        self.assertEqual(tree.lack("a"), (54, 5))
        tree.take("a")
        tree.put("a", "road", "leaf", 3)
        self.assertEqual(tree.lack("a"), (6, 1))
        tree.come("b", 6)
        tree.come("a", 6)
        tree.come("a", 6)
        tree.until(30)
        self.assertEqual([name for start, number, name in tree.goings()], ["a", "b", "a", "a"])

    def test_an_inner_class_put_in_again_has_a_new_chooser(self):
        for kind in ("starts", "rounds"):
            with self.subTest(kind):
                tree = Tree(4)
                tree.put("in", "road", kind, 1)
                tree.put("a", "in", "leaf", 1)
                tree.come("a", 4)
                tree.until(10)
                tree.take("a")
                tree.take("in")
                tree.put("in", "road", kind, 1)
                self.assertEqual(tree.below("in"), [])
                tree.put("b", "in", "leaf", 1)
                tree.put("a", "in", "leaf", 1)
                tree.come("a", 4)
                tree.come("b", 4)
                tree.until(20)
                self.assertEqual([name for start, number, name in tree.goings()], ["a", "b", "a"])


class NoSuchClass(Refusals):
    def test_each_method_refuses_who_does_not_stand(self):
        for name in ("nobody", "", "A", "road"):
            for method, more in (
                ("take", ()), ("reshare", (1,)), ("curb", (10, (1, 1))), ("uncurb", ()), ("curbed", ()),
                ("come", (1,)), ("waiting", ()), ("way", ()), ("part", ()), ("lack", ()),
            ):
                with self.subTest(name=name, method=method):
                    self.refused("NoClass", method, name, *more)

    def test_the_road_counts_in_below_and_may_go(self):
        self.assertEqual(grown().below("road"), ["in", "c", "hollow"])
        self.assertIs(grown().may_go("road"), True)
        for name in ("nobody", "", "ROAD"):
            for method in ("below", "may_go"):
                with self.subTest(name=name, method=method):
                    self.refused("NoClass", method, name)

    def test_no_class_is_told_ahead_of_all_else(self):
        for name in ("nobody", "road"):
            with self.subTest(name):
                self.refused("NoClass", "reshare", name, 0)
                self.refused("NoClass", "curb", name, 0, (0, 1))
                self.refused("NoClass", "come", name, 0)


class Resharing(Refusals):
    def test_shares_from_one_to_a_million(self):
        for name in ("a", "in"):
            for share in (0, -5, 10 ** 6 + 1):
                with self.subTest(name=name, share=share):
                    self.refused("NoShare", "reshare", name, share)
        tree = Tree(4)
        tree.put("a", "road", "leaf", 1)
        tree.put("b", "road", "leaf", 1)
        for share in (1, 2, 10 ** 6):
            self.assertIsNone(tree.reshare("a", share))
            self.assertEqual(tree.part("b"), (1, share + 1))
        self.assertEqual(tree.below("road"), ["a", "b"])

    def test_parts_and_lacks_are_those_of_the_chooser(self):
        for kind, made in (("starts", Starts), ("rounds", Rounds)):
            with self.subTest(kind):
                tree = Tree(7)
                chooser = made(7)
                tree.put("in", "road", kind, 9)
                for name, share in (("a", 2), ("b", 3), ("c", 7)):
                    tree.put(name, "in", "leaf", share)
                    chooser.put(name, share)
                tree.reshare("b", 5)
                chooser.reshare("b", 5)
                self.assertEqual((tree.part("in"), tree.lack("in")), ((1, 1), (0, 1)))
                for name in ("a", "b", "c"):
                    self.assertEqual(tree.part(name), chooser.part(name))
                    self.assertEqual(tree.lack(name), chooser.lack(name))

    def test_a_new_share_counts_from_then_on(self):
        tree = Tree(6)
        tree.put("a", "road", "leaf", 1)
        tree.put("b", "road", "leaf", 1)
        for count in range(6):
            tree.come("a", 6)
            tree.come("b", 6)
        tree.until(13)
        tree.reshare("a", 3)
        tree.until(100)
        # Up to 13 go a, b, a. Then b goes from 6; from 12 on a steps by 2 and b by 6, till a has no more at 20.
        self.assertEqual("".join(name for start, number, name in tree.goings()), "aba" "b" "abaa" "ab" "bb")


class Curbing(Refusals):
    def test_depths_from_most_to_ten_to_the_twelfth(self):
        for depth in (9, 0, -10, 10 ** 12 + 1, 10 ** 30):
            for name in ("a", "in"):
                with self.subTest(name=name, depth=depth):
                    self.refused("NoCurb", "curb", name, depth, (1, 1))
        for depth in (10, 11, 10 ** 12):
            with self.subTest(depth):
                tree = grown()
                self.assertIsNone(tree.curb("a", depth, (1, 1)))
                self.assertIs(tree.curbed("a"), True)

    def test_rates_above_nought(self):
        for rate in ((0, 1), (-1, 1), (-1, 10 ** 30), (-10 ** 30, 7)):
            with self.subTest(rate):
                self.refused("NoCurb", "curb", "a", 10, rate)
        for rate in ((1, 10 ** 30), (10 ** 30, 1), (2, 3)):
            with self.subTest(rate):
                tree = grown()
                tree.curb("a", 10, rate)
                self.assertIs(tree.curbed("a"), True)

    def test_a_curb_that_is_refused_leaves_the_old_one(self):
        tree = grown()
        with self.assertRaises(errors.NoCurb):
            tree.curb("in", 10, (0, 1))
        self.assertIs(tree.curbed("in"), True)
        with self.assertRaises(errors.NoCurb):
            tree.curb("in", 9, (1, 1))
        self.assertIs(tree.curbed("in"), True)

    def test_curbed_speaks_of_the_class_itself(self):
        tree = grown()
        self.assertEqual([tree.curbed(name) for name in ("in", "a", "b", "c")], [True, False, False, False])
        tree.uncurb("in")
        tree.curb("a", 10, (1, 1))
        self.assertEqual([tree.curbed(name) for name in ("in", "a", "b", "c")], [False, True, False, False])

    def test_a_curb_is_taken_off_where_there_is_one(self):
        tree = grown()
        self.assertIsNone(tree.uncurb("in"))
        self.assertIs(tree.curbed("in"), False)
        self.assertIsNone(tree.uncurb("in"))
        self.assertIsNone(tree.uncurb("a"))
        self.assertIs(tree.curbed("a"), False)


class Coming(Refusals):
    def test_only_to_a_leaf(self):
        for name in ("in", "hollow", "deepd"):
            with self.subTest(name):
                self.refused("NoPlace", "come", name, 5)
                self.refused("NoPlace", "come", name, 0)
                self.refused("NoPlace", "waiting", name)

    def test_lengths_from_one_to_most(self):
        for length in (0, -1, 11, 10 ** 20):
            with self.subTest(length):
                self.refused("NoLength", "come", "a", length)
                # Wrong ahead of dropped: the room of b could not hold it either.
                self.refused("NoLength", "come", "b", length)
        tree = Tree(10)
        tree.put("a", "road", "leaf", 1)
        self.assertEqual([tree.come("a", length) for length in (1, 10)], [0, 1])

    def test_rooms(self):
        for room, taken in ((0, []), (1, [1]), (4, [1, 3]), (5, [1, 3, 1]), (6, [1, 3, 2]), (8, [1, 3, 2, 1])):
            with self.subTest(room):
                tree = Tree(4)
                tree.put("a", "road", "leaf", 1, room)
                offered = (1, 3, 2, 4, 1)
                self.assertEqual([length for length in offered if tree.come("a", length) is not None], taken)

    def test_a_room_just_enough_and_one_too_small(self):
        for room, told in ((7, 1), (6, None)):
            tree = Tree(4)
            tree.put("a", "road", "leaf", 1, room)
            tree.come("a", 3)
            self.assertEqual(tree.come("a", 4), told)

    def test_only_what_waits_in_the_leaf_counts_for_its_room(self):
        tree = Tree(4)
        tree.put("in", "road", "starts", 1)
        tree.put("a", "in", "leaf", 1, 4)
        tree.put("b", "in", "leaf", 1, 4)
        self.assertEqual([tree.come("a", 4), tree.come("b", 4), tree.come("a", 1)], [0, 1, None])
        # At the time 0 nothing has begun yet; a piece that has begun waits no longer, though it is on the road.
        tree.until(0)
        self.assertIsNone(tree.come("a", 4))
        tree.until(1)
        self.assertEqual(tree.come("a", 4), 2)

    def test_what_is_dropped_gets_no_number(self):
        tree = Tree(4)
        tree.put("a", "road", "leaf", 1, 4)
        tree.put("b", "road", "leaf", 1)
        comings = [("a", 3), ("a", 2), ("b", 4), ("a", 1), ("a", 1), ("b", 1)]
        self.assertEqual([tree.come(name, length) for name, length in comings], [0, None, 1, 2, None, 3])
        self.assertEqual((tree.waiting("a"), tree.waiting("b")), ([0, 2], [1, 3]))

    def test_numbers_go_on_behind_goings_and_takings(self):
        tree = Tree(4)
        tree.put("a", "road", "leaf", 1)
        self.assertEqual([tree.come("a", 1), tree.come("a", 1)], [0, 1])
        tree.until(1)
        self.assertEqual(tree.waiting("a"), [1])
        tree.take("a")
        tree.put("b", "road", "leaf", 1)
        self.assertEqual(tree.come("b", 1), 2)

    def test_waiting_in_order(self):
        tree = Tree(4)
        tree.put("a", "road", "leaf", 1)
        tree.put("b", "road", "leaf", 1)
        for count in range(5):
            tree.come("a", 4 - count % 4)
            tree.come("b", 1 + count % 4)
        self.assertEqual(tree.waiting("a"), [0, 2, 4, 6, 8])
        # a goes at 0; b, which stands at 0 and then at 1, at 4 and 5.
        tree.until(6)
        self.assertEqual((tree.waiting("a"), tree.waiting("b")), ([2, 4, 6, 8], [5, 7, 9]))


class TheAskersOwn(unittest.TestCase):
    def test_told_lists_are_new_and_change_nothing(self):
        tree = grown()
        for ask in (
            lambda: tree.goings(), lambda: tree.waiting("a"), lambda: tree.way("a"), lambda: tree.below("road"),
            lambda: tree.below("in"), lambda: tree.below("a"),
        ):
            before = ask()
            told = ask()
            self.assertIsNot(told, before)
            told.append("mine")
            told.reverse()
            self.assertEqual(ask(), before)
        self.assertEqual(state(tree), state(grown()))
        back = tree.take("c")
        back.append(99)
        tree.until(1000)
        self.assertEqual(len(tree.goings()), 5)

    def test_told_tuples_are_new(self):
        tree = grown()
        for one, other in zip(tree.goings(), tree.goings()):
            self.assertIsNot(one, other)
        for ask in (tree.part, tree.lack):
            for name in ("a", "in", "deepd"):
                self.assertIsNot(ask(name), ask(name))

    def test_what_was_told_stays_as_it_was(self):
        tree = grown()
        told = (tree.goings(), tree.waiting("a"), tree.waiting("c"), tree.way("a"), tree.below("road"))
        before = [list(some) for some in told]
        tree.put("new", "road", "leaf", 1)
        tree.come("a", 1)
        tree.until(1000)
        tree.take("c")
        self.assertEqual(list(told), before)

    def test_asking_changes_nothing(self):
        tree = grown()
        for count in range(3):
            state(tree)
        twin = grown()
        for one in (tree, twin):
            one.until(1000)
        self.assertEqual(state(tree), state(twin))


if __name__ == "__main__":
    unittest.main()
