"""The desk: each line with its answers and refusals (9.4), and the lines that are none (9.5)."""

import unittest

from sharewheel import errors
from sharewheel.desks import Desk
from sharewheel.floors import floor, longest_wait
from sharewheel.texts import show_fraction
from sharewheel.trees import Tree

# Each line asks without changing anything, or is put at an end; together they show all that a desk has.
ASKING = (
    "waits a", "waits b", "waits c", "floor in", "floor a", "floor b", "floor c", "longest c 5 0", "deal", "plan",
    "come a 1", "come b 10", "come c 10", "until 30", "until 1000", "take c", "take a", "take b", "take in",
)


def grown():
    desk = Desk(10)
    for text in (
        "class in road rounds 3", "class a in leaf 2", "class b in leaf 5 12", "class c road leaf 1",
        "curb a 15 1/3", "come a 10", "come b 4", "come a 9", "come c 9", "come b 8", "come c 1", "until 6",
        "piece 0 0 4 1", "piece 0 1 4 3", "piece 2 1 4 3", "sender 1 4 0", "sender 3 3 1/2",
    ):
        desk.say(text)
    return desk


def asked(desk):
    return [desk.say(text) for text in ASKING]


class Saying(unittest.TestCase):
    def say(self, desk, *lines):
        for text, answer in lines:
            self.assertEqual((text, desk.say(text)), (text, answer))

    def refused(self, kind, *lines):
        told = asked(grown())
        for text in lines:
            with self.subTest(text):
                desk = grown()
                with self.assertRaises(errors.WheelError) as caught:
                    desk.say(text)
                self.assertIs(type(caught.exception), getattr(errors, kind))
                self.assertEqual(asked(desk), told)
        return caught.exception


class Making(unittest.TestCase):
    def test_the_greatest_length(self):
        for most in (1, 10 ** 6):
            desk = Desk(most)
            desk.say("class a road leaf 1")
            self.assertEqual(desk.say(f"come a {most}"), "piece 0")
            with self.assertRaises(errors.NoLength):
                desk.say(f"come a {most + 1}")
        for most in (0, -1, 10 ** 6 + 1):
            with self.subTest(most), self.assertRaises(errors.NoLength):
                Desk(most)
        self.assertEqual(Desk(most=4).say("deal"), "none")

    def test_two_desks_are_apart(self):
        desk = grown()
        for text in ("deal", "plan"):
            self.assertEqual(Desk(10).say(text), "none")
            self.assertNotEqual(desk.say(text), "none")
        with self.assertRaises(errors.NoClass):
            Desk(10).say("waits a")


class Classes(Saying):
    def test_a_class_is_put_in(self):
        desk = Desk(4)
        self.say(
            desk, ("class a road leaf 2", "ok"), ("class in road starts 1", "ok"),
            ("class out road rounds 1000000", "ok"),
            ("class b in leaf 1 5", "ok"), ("class c in leaf 1 0", "ok"), ("class d out rounds 1 0", "ok"),
            ("class abcdefgh d leaf 1", "ok"),
            ("come b 4", "piece 0"), ("come b 2", "dropped"), ("come b 1", "piece 1"), ("come c 1", "dropped"),
            ("come abcdefgh 4", "piece 2"), ("come a 4", "piece 3"), ("come a 4", "piece 4"),
            ("floor b", "1/2000006 " + show_fraction(self.lack())),
        )

    def lack(self):
        tree = Tree(4)
        for name, share in (("a", 2), ("in", 1), ("out", 10 ** 6)):
            tree.put(name, "road", "starts", share)
        tree.put("b", "in", "leaf", 1)
        tree.put("c", "in", "leaf", 1)
        return floor(tree, "b")[1]

    def test_the_road_goes_by_starts(self):
        desk = Desk(4)
        for name, share in (("a", 2), ("b", 1)):
            desk.say(f"class {name} road leaf {share}")
            for count in range(5):
                desk.say(f"come {name} 4")
        self.assertEqual(
            desk.say("until 32"), "0 0 a; 4 5 b; 8 1 a; 12 2 a; 16 6 b; 20 3 a; 24 4 a; 28 7 b",
        )

    def test_inner_classes_go_by_their_kind(self):
        for kind, told in (("starts", "0 0 a; 4 2 b; 8 1 a; 12 3 b"), ("rounds", "0 0 a; 4 1 a; 8 2 b; 12 3 b")):
            desk = Desk(4)
            desk.say(f"class in road {kind} 1")
            for name in ("a", "b"):
                desk.say(f"class {name} in leaf 2")
                desk.say(f"come {name} 4")
                desk.say(f"come {name} 4")
            self.assertEqual(desk.say("until 16"), told)

    def test_refusals(self):
        self.refused("NoName", "class A road leaf 1", "class  road leaf 1", "class abcdefghi road leaf 1",
                     "class a1 nobody leaf 0", "class 1 road leaf 1 5", "class a\n road leaf 1")
        self.refused("Taken", "class a road leaf 1", "class road road leaf 1", "class in nobody tree 0")
        self.refused("NoClass", "class new nobody leaf 1", "class new  leaf 1", "class new nobody tree 0")
        self.refused("NoPlace", "class new road tree 1", "class new road  1", "class new a leaf 1",
                     "class new road Leaf 0 7", "class new a rounds 1")
        self.refused("NoShare", "class new road leaf 0", "class new in starts 1000001", "class new road leaf 0 0")

    def test_reshare(self):
        desk = grown()
        self.say(desk, ("reshare c 2", "ok"), ("reshare a 1000000", "ok"))
        self.assertEqual(desk.say("floor c").split(" ")[0], "2/5")
        self.refused("NoClass", "reshare nobody 1", "reshare road 1", "reshare  1", "reshare nobody 0")
        self.refused("NoShare", "reshare a 0", "reshare in 1000001")

    def test_curb_and_uncurb(self):
        desk = Desk(4)
        self.say(
            desk, ("class a road leaf 1", "ok"), ("curb a 4 1/2", "ok"), ("come a 4", "piece 0"),
            ("come a 4", "piece 1"), ("come a 4", "piece 2"), ("until 9", "0 0 a; 8 1 a"), ("uncurb a", "ok"),
            ("until 100", "12 2 a"), ("uncurb a", "ok"),
            ("curb a 1000000000000 999999", "ok"), ("curb a 5 1/999999", "ok"), ("come a 4", "piece 3"),
            ("come a 1", "piece 4"), ("come a 1", "piece 5"), ("until 999999", "100 3 a; 104 4 a"),
            ("until 999999999", "1000099 5 a"),
        )
        self.refused("NoClass", "curb nobody 10 1", "curb road 10 1", "curb  10 1", "curb nobody 0 0", "uncurb nobody",
                     "uncurb road", "uncurb ")
        self.refused("NoCurb", "curb c 9 1", "curb c 1000000000001 1", "curb c 10 0", "curb c 10 -1/2", "curb a 0 1")

    def test_take(self):
        desk = Desk(4)
        self.say(
            desk, ("class a road leaf 1", "ok"), ("class b road leaf 1", "ok"), ("take b", "back"),
            ("come a 4", "piece 0"), ("take a", "back 0"), ("class a road leaf 1", "ok"), ("come a 1", "piece 1"),
            ("come a 2", "piece 2"), ("come a 3", "piece 3"), ("until 1", "0 1 a"), ("take a", "back 2 3"),
            ("until 100", "none"),
        )
        self.refused("NoClass", "take nobody", "take road", "take ", "take A")
        self.refused("NoPlace", "take in")

    def test_come(self):
        self.refused("NoClass", "come nobody 1", "come road 1", "come  1", "come nobody 0")
        self.refused("NoPlace", "come in 1", "come in 0")
        self.refused("NoLength", "come a 0", "come a 11", "come b 999999999999999")
        desk = Desk(10)
        self.say(
            desk, ("class a road leaf 1 12", "ok"), ("come a 10", "piece 0"), ("come a 3", "dropped"),
            ("come a 2", "piece 1"), ("come a 1", "dropped"),
        )

    def test_waits(self):
        desk = Desk(4)
        self.say(
            desk, ("class a road leaf 1", "ok"), ("class b road leaf 1", "ok"), ("waits a", "none"),
            ("come a 4", "piece 0"), ("waits a", "0"), ("come b 4", "piece 1"), ("come a 4", "piece 2"),
            ("come a 4", "piece 3"), ("waits a", "0 2 3"),
            ("until 1", "0 0 a"), ("waits a", "2 3"), ("waits b", "1"), ("until 100", "4 1 b; 8 2 a; 12 3 a"),
            ("waits a", "none"),
        )
        self.refused("NoClass", "waits nobody", "waits road", "waits ")
        self.refused("NoPlace", "waits in")

    def test_until_tells_what_this_line_made(self):
        desk = Desk(4)
        self.say(
            desk, ("until 0", "none"), ("class a road leaf 1", "ok"), ("class abcdefgh road leaf 1", "ok"),
            ("come a 4", "piece 0"),
            ("come abcdefgh 3", "piece 1"), ("come a 1", "piece 2"), ("until 0", "none"), ("until 1", "0 0 a"),
            ("until 4", "none"), ("until 5", "4 1 abcdefgh"), ("until 6", "none"), ("until 999999999999999", "7 2 a"),
            ("until 999999999999999", "none"),
        )
        self.refused("TooEarly", "until 5", "until 0")

    def test_floor_and_longest(self):
        desk = Desk(4)
        self.say(
            desk, ("class a road leaf 2", "ok"), ("class in road rounds 1", "ok"), ("class b in leaf 3", "ok"),
            ("class c in leaf 1", "ok"), ("floor a", "2/3 4"), ("floor in", "1/3 4"), ("floor b", "1/4 10"),
            ("floor c", "1/12 8"), ("longest a 4 1/2", "16"), ("longest a 4 2/3", "16"), ("longest b 5 0", "64"),
            ("longest c 1000000000000 1/13", "12000000000100"), ("longest a 5 0", "35/2"),
        )
        tree = Tree(4)
        tree.put("a", "road", "leaf", 2)
        tree.put("in", "road", "leaf", 1)
        self.assertEqual(desk.say("longest a 7 1/5"), show_fraction(longest_wait(tree, "a", (7, (1, 5)))))
        self.refused("NoClass", "floor nobody", "floor road", "floor ", "longest nobody 1 0", "longest road 1 7")
        self.refused("NoPlace", "longest in 1 0", "longest in 1 7")
        self.assertEqual(self.refused("Curbed", "longest a 1 0", "longest a 1 7").name, "a")
        refusal = self.refused("TooMuch", "longest c 1 2", "longest b 1 999999/2", "longest c 1 1/3")
        self.assertEqual((refusal.asked, refusal.given), ((1, 3), (1, 4)))
        self.refused("NoLine", "longest c 0 0", "longest c 1000000000001 0", "longest c 1 -1/2", "longest nobody 0 0",
                     "longest in 0 0", "longest a 1 -7", "longest road 1 -7")


class Rows(Saying):
    def test_deal(self):
        desk = Desk(4)
        self.say(
            desk, ("deal", "none"), ("piece 0 0 4 1", "ok"), ("deal", "0 0 4"), ("piece 0 1 4 3", "ok"),
            ("piece 0 1 4 3", "ok"),
            ("deal", "1 0 16/3; 0 4 12; 2 8 32/3"), ("deal", "1 0 16/3; 0 4 12; 2 8 32/3"),
            ("piece 1000000000000 11 1000000 1000000", "ok"),
            ("deal", "1 0 16/3; 0 4 12; 2 8 32/3; 3 1000000000000 1000001000000"),
        )

    def test_the_row_stands_apart_from_the_tree(self):
        # A length above the desk's own greatest one, at a time that the tree is past.
        self.say(Desk(1), ("until 100", "none"), ("piece 3 0 9 1", "ok"), ("deal", "0 3 12"), ("until 200", "none"))

    def test_a_row_that_is_refused(self):
        for text in (
            "piece 1 0 1 1", "piece 2 12 1 1", "piece 2 0 0 1", "piece 2 0 1000001 1", "piece 2 0 1 0",
            "piece 2 0 1 1000001", "piece 1000000000001 0 1 1", "piece 999999999999999 0 1 1",
        ):
            self.assertEqual(self.refused("BadRow", text).place, 3)
        self.say(grown(), ("piece 2 0 1 1", "ok"))

    def test_the_61st_piece(self):
        desk = Desk(1)
        for count in range(60):
            self.assertEqual(desk.say("piece 7 0 1 1"), "ok")
        told = desk.say("deal")
        with self.assertRaises(errors.BadRow) as caught:
            desk.say("piece 7 0 1 1")
        self.assertEqual(caught.exception.place, 60)
        self.assertEqual(desk.say("deal"), told)
        self.assertEqual(told, "; ".join(f"{place} {7 + place} {8 + place}" for place in range(60)))


class Plans(Saying):
    def test_plan(self):
        desk = Desk(4)
        self.say(
            desk, ("plan", "none"), ("sender 1 4 0", "ok"), ("plan", "4 4"), ("sender 3 3 1/2", "ok"),
            ("plan", "4 14; 3 4"),
            ("plan", "4 14; 3 4"), ("sender 1000000 1000000000000 1/999999", "ok"),
        )
        self.assertEqual(len(desk.say("plan").split("; ")), 3)

    def test_twelve_senders(self):
        desk = Desk(4)
        for count in range(12):
            self.assertEqual(desk.say("sender 2 5 1/13"), "ok")
        self.assertEqual(desk.say("plan"), "; ".join(["5 60"] * 12))

    def test_too_much(self):
        for rate, asked_for in (("1/2", (1, 1)), ("999999", (1999999, 2))):
            desk = grown()
            self.assertEqual(desk.say(f"sender 1 1 {rate}"), "ok")
            with self.assertRaises(errors.TooMuch) as caught:
                desk.say("plan")
            self.assertEqual((caught.exception.asked, caught.exception.given), (asked_for, (1, 1)))

    def test_senders_that_are_refused(self):
        self.refused("NoShare", "sender 0 1 0", "sender 1000001 1 0", "sender 0 0 -1")
        self.refused("NoLine", "sender 1 0 0", "sender 1 1000000000001 0", "sender 1 1 -1/2", "sender 1 0 -1")


class NoLines(Saying):
    def test_a_first_word_that_is_none(self):
        self.refused(
            "NoText", "", " ", "  ", "deals", "Deal", "DEAL", "put a road leaf 1", "curbed a", "now", "goings", "way a",
            "x",
            " deal", "\ndeal", "deal\n", "ok", "until\t7", "word number", "none", "class\n", "report", "pay a 1",
        )

    def test_another_count_of_words(self):
        for text in (
            "class new road leaf 1 5", "reshare a 1", "curb a 10 1", "uncurb a", "take a", "come a 1", "waits a",
            "until 7", "floor a", "longest c 1 0", "piece 2 0 1 1", "deal", "sender 1 1 0", "plan",
        ):
            words = text.split(" ")
            fewer = [" ".join(words[:count]) for count in range(1, len(words))]
            if words[0] == "class":
                fewer.pop()
            self.refused("NoText", text + " ", text + " 1", text + " 1 1", text + "  ", " " + text, *fewer)

    def test_words_that_are_no_numbers(self):
        for text in (
            "class new road leaf X", "class new road leaf 1 X", "reshare a X", "curb c X 1", "come a X", "until X",
            "longest c X 0", "piece X 0 1 1", "piece 2 X 1 1", "piece 2 0 X 1", "piece 2 0 1 X", "sender X 1 0",
            "sender 1 X 0",
        ):
            self.refused("NoText", *[text.replace("X", word) for word in (
                "", "-1", "+1", "01", "00", "1/2", "1.0", "a", "1" * 16, "\u0661", "\u00b2", "1\n", "-0", "none",
            )])

    def test_words_that_are_no_rates(self):
        for text in ("curb c 10 X", "longest c 1 X", "sender 1 1 X"):
            self.refused("NoText", *[text.replace("X", word) for word in (
                "", "-", "+1", "01", "2/4", "1/1", "0/1", "-0", "1/0", "1/-2", "1.5", "a", "1000000", "-1000000",
                "1/1000000",
                "1000000/3", "-1000001/2", "1000001/1000000", "1/2/3", "1\n", "9" * 41,
            )])

    def test_rates_just_below_a_million(self):
        for rate in ("999999", "1/999999", "999999/999998", "999998/999999"):
            for text in ("curb c 10 ", "sender 1 1 "):
                self.assertEqual(grown().say(text + rate), "ok")
        with self.assertRaises(errors.NoCurb):
            grown().say("curb c 10 -999999")

    def test_no_text_is_told_ahead_of_all_else(self):
        self.refused(
            "NoText", "class A nobody tree 0 x", "class a road leaf -1", "reshare nobody 0 ", "curb nobody 0 x",
            "curb nobody 0 1000000", "come nobody -1", "take", "take nobody road", "until -1", "longest nobody 0 x",
            "piece 0 12 0 -1", "sender 0 0 1/1",
        )


if __name__ == "__main__":
    unittest.main()
