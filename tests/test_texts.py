"""Texts: fractions (9.1) and rows (9.2) written and read, and the report (9.3)."""

import unittest
from random import Random

from sharewheel import errors
from sharewheel.flows import spans
from sharewheel.ratios import ratio
from sharewheel.texts import read_fraction, read_number, read_row, report, show_fraction, show_row
from sharewheel.wheels import dealt

FORTY = int("9" * 40)

WRITTEN = (
    ((0, 1), "0"), ((1, 1), "1"), ((-1, 1), "-1"), ((10, 1), "10"), ((-120, 1), "-120"), ((1, 2), "1/2"),
    ((-7, 2), "-7/2"), ((20, 3), "20/3"), ((1, 10), "1/10"), ((10 ** 15, 1), "1" + "0" * 15),
    ((-10 ** 39, 3), "-1" + "0" * 39 + "/3"), ((FORTY, 1), "9" * 40), ((1, FORTY), "1/" + "9" * 40),
    ((-FORTY, FORTY - 1), "-" + "9" * 40 + "/" + "9" * 39 + "8"),
)

NO_FRACTIONS = (
    "", "-", "/", "-/", "1/", "/2", "-/2", "1/2/3", "1//2", "00", "01", "-01", "01/2", "1/02", "-0", "0/1", "0/5",
    "-0/5", "1/1", "-3/1", "2/4", "6/4", "-6/4", "10/10", "1/0", "-1/0", "0/0", "1/-2", "-1/-2", "+1", "+1/2", "--1",
    "1-", " 1", "1 ", "1 /2", "1/ 2", " ", "1\n", "\n1", "1/2\n", "1.5", "1,5", "1_000", "1e3", "0x1", "a", "x", "1/a",
    "a/2",
    "\u0661", "1/\u0662", "\u00b2", "\uff11", "\u2212" "1", "\u00bd", "None", "True", "(1, 2)",
    "1" + "0" * 40, "-1" + "0" * 40, "1/1" + "0" * 40, "1" + "0" * 40 + "/3", "0" * 41,
)


class Fractions(unittest.TestCase):
    def test_written(self):
        for one, text in WRITTEN:
            with self.subTest(text):
                self.assertEqual(show_fraction(one), text)

    def test_read(self):
        for one, text in WRITTEN:
            with self.subTest(text):
                self.assertEqual(read_fraction(text), one)

    def test_written_and_read_again(self):
        chance = Random(91)
        for count in range(500):
            figures = chance.choice((1, 2, 10, 39))
            one = ratio(chance.randint(-10 ** figures, 10 ** figures), chance.randint(1, 10 ** figures))
            text = show_fraction(one)
            self.assertEqual(read_fraction(text), one)
            self.assertEqual(text, str(one[0]) if one[1] == 1 else f"{one[0]}/{one[1]}")

    def test_what_is_none(self):
        for text in NO_FRACTIONS:
            with self.subTest(text):
                with self.assertRaises(errors.WheelError) as caught:
                    read_fraction(text)
                self.assertIs(type(caught.exception), errors.NoText)

    def test_figures_of_any_count_are_written(self):
        for figures in (41, 59, 60, 61, 119, 120, 121, 180, 4300, 4301, 9000):
            great = 10 ** (figures - 1)
            with self.subTest(figures):
                self.assertEqual(show_fraction((great, 1)), "1" + "0" * (figures - 1))
                noughts = "0" * (figures - 2)
                self.assertEqual(show_fraction((-great - 7, great)), "-1" + noughts + "7/1" + noughts + "0")
        self.assertEqual(show_fraction(((10 ** 5000 - 1) // 9, 1)), "1" * 5000)
        self.assertEqual(show_fraction((10 ** 5000 - 1, 1)), "9" * 5000)

    def test_read_anew(self):
        for text in ("0", "1", "-7/2"):
            self.assertIsNot(read_fraction(text), read_fraction(text))
            self.assertIs(type(read_fraction(text)), tuple)

    def test_numbers(self):
        for text, told in (("0", 0), ("7", 7), ("10", 10), ("9" * 15, 10 ** 15 - 1), ("1" + "0" * 14, 10 ** 14)):
            self.assertEqual(read_number(text), told)
        for text in (
            "", "-1", "-0", "00", "01", "1" * 16, "0" * 16, " 1", "1 ", "+1", "1/2", "a", "\u0661", "\u00b2", "1\n",
        ):
            with self.subTest(text), self.assertRaises(errors.NoText):
                read_number(text)


class Rows(unittest.TestCase):
    row = [(0, 0, 4, 1), (0, 11, 1000000, 3), (1000000000000, 1, 1, 1000000)]
    text = "0 0 4 1\n0 11 1000000 3\n1000000000000 1 1 1000000"

    def test_written_and_read(self):
        self.assertEqual(show_row(self.row), self.text)
        self.assertEqual(read_row(self.text), self.row)
        self.assertEqual(show_row(self.row[:1]), "0 0 4 1")
        self.assertEqual(read_row("0 0 4 1"), self.row[:1])

    def test_the_row_without_pieces(self):
        self.assertEqual(show_row([]), "")
        self.assertEqual(read_row(""), [])
        self.assertIsNot(read_row(""), read_row(""))

    def test_written_and_read_again(self):
        chance = Random(92)
        for count in range(100):
            times = sorted(chance.randint(0, 10 ** 12) for piece in range(chance.randint(0, 60)))
            row = [(at, chance.randint(0, 11), chance.randint(1, 10 ** 6), chance.randint(1, 10 ** 6)) for at in times]
            self.assertEqual(read_row(show_row(row)), row)

    def test_texts_that_are_none(self):
        good = "0 0 4 1"
        for bad in (
            "0 0 4", "0 0 4 1 1", "0", " ", "0 0 4 1 ", " 0 0 4 1", "0  0 4 1", "0 0 4  1", "0 0 4 -1", "-1 0 4 1",
            "0 0 4 01", "00 0 4 1", "0 0 4 +1", "0 0 4 a", "0 0 4 1/2", "0,0,4,1", "0\t0\t4\t1", "0 0 4 1\r",
            "0 0 4 1.0", "0 0 4 \u0661", "0 0 \u00b2 1", "1" + "0" * 15 + " 0 4 1", "0 0 4 " + "1" * 16,
            "0 0 4 1;0 0 4 1", "0 0 4 1\x0b0 0 4 1", "(0, 0, 4, 1)", "\u2028", "0 0 4 1\u2028" + good,
            "0 0 4 1\x85" + good,
        ):
            for text in (bad, bad + "\n" + good, good + "\n" + bad, good + "\n" + bad + "\n" + good):
                with self.subTest(text):
                    with self.assertRaises(errors.WheelError) as caught:
                        read_row(text)
                    self.assertIs(type(caught.exception), errors.NoText)

    def test_line_ends_stand_between_alone(self):
        for text in ("\n", "0 0 4 1\n", "\n0 0 4 1", "0 0 4 1\n\n0 0 4 1", "0 0 4 1\r\n0 0 4 1"):
            with self.subTest(text), self.assertRaises(errors.NoText):
                read_row(text)

    def test_a_bad_row_with_the_least_bad_place(self):
        good = "5 0 4 1"
        for bad in (
            "4 0 4 1", "1000000000001 0 4 1", "5 12 4 1", "5 0 0 1", "5 0 1000001 1", "5 0 4 0", "5 0 4 1000001",
            "5 0 4 999999999999999", "5 0 999999999999999 1",
        ):
            for text, place in (
                (good + "\n" + bad, 1), (good + "\n" + good + "\n" + bad + "\n" + bad, 2),
                (good + "\n" + bad + "\n" + good, 1),
            ):
                with self.subTest(text), self.assertRaises(errors.BadRow) as caught:
                    read_row(text)
                self.assertEqual(caught.exception.place, place)
        with self.assertRaises(errors.BadRow) as caught:
            read_row("0 12 1 1")
        self.assertEqual(caught.exception.place, 0)

    def test_the_61st_piece(self):
        self.assertEqual(len(read_row("\n".join(["0 0 4 1"] * 60))), 60)
        with self.assertRaises(errors.BadRow) as caught:
            read_row("\n".join(["0 0 4 1"] * 70))
        self.assertEqual(caught.exception.place, 60)

    def test_no_text_is_told_ahead_of_a_bad_row(self):
        for text in ("0 12 4 1\n0 0 4", "\n".join(["0 0 4 1"] * 61) + "\n", "5 0 4 1\n4 0 4 1\n0 0 04 1"):
            with self.subTest(text), self.assertRaises(errors.NoText):
                read_row(text)

    def test_what_is_handed_in_stays(self):
        row = list(self.row)
        show_row(row)
        self.assertEqual(row, self.row)


def plain_report(row, rooms=None):
    """9.3 by its words."""
    goings, dropped = dealt(row, rooms)
    went = [place for place in range(len(row)) if place not in dropped]
    ends = dict(zip(went, [span[1] for span in spans([row[place] for place in went])]))
    lines = [["piece", "sender", "comes", "begins", "ends", "flowed"]]
    for place, start in goings:
        at, who, length, share = row[place]
        lines.append([str(place), str(who), str(at), str(start), str(start + length), show_fraction(ends[place])])
    for place in dropped:
        lines.append([str(place), str(row[place][1]), str(row[place][0]), "-", "-", "-"])
    widths = [max(map(len, column)) for column in zip(*lines)]
    return "\n".join("  ".join(f"{word:>{width}}" for word, width in zip(line, widths)) for line in lines)


class Reports(unittest.TestCase):
    row = [(0, 0, 4, 1), (0, 1, 4, 3), (0, 1, 4, 3)]

    def test_of_the_row_of_the_document(self):
        self.assertEqual(report(self.row), "\n".join((
            "piece  sender  comes  begins  ends  flowed",
            "    1       1      0       0     4    16/3",
            "    0       0      0       4     8      12",
            "    2       1      0       8    12    32/3",
        )))

    def test_the_flowing_road_bears_just_what_went(self):
        # Without the piece of place 2 the piece of place 0 has flowed out at 8 already.
        self.assertEqual(report(self.row, {1: 7}), "\n".join((
            "piece  sender  comes  begins  ends  flowed",
            "    1       1      0       0     4    16/3",
            "    0       0      0       4     8       8",
            "    2       1      0       -     -       -",
        )))

    def test_what_was_dropped_by_rising_place(self):
        row = [(0, 10, 4, 1), (0, 10, 4, 1), (2, 3, 1, 1), (2, 10, 4, 1), (3, 3, 1, 1)]
        self.assertEqual(report(row, {10: 3, 3: 1}), "\n".join((
            "piece  sender  comes  begins  ends  flowed",
            "    2       3      2       2     3       3",
            "    4       3      3       3     4       4",
            "    0      10      0       -     -       -",
            "    1      10      0       -     -       -",
            "    3      10      2       -     -       -",
        )))

    def test_all_dropped(self):
        self.assertEqual(report([(7, 0, 1, 1)], {0: 0}), "\n".join((
            "piece  sender  comes  begins  ends  flowed",
            "    0       0      7       -     -       -",
        )))

    def test_columns_as_wide_as_their_longest_word(self):
        # From 100000 on both flow at 1/2: the first has 9 left then, the second has 999991 left at 100018.
        self.assertEqual(report([(99999, 0, 10, 1), (100000, 1, 1000000, 1)]), "\n".join((
            "piece  sender   comes  begins     ends   flowed",
            "    0       0   99999   99999   100009   100018",
            "    1       1  100000  100009  1100009  1100009",
        )))

    def test_a_row_without_pieces(self):
        for rooms in (None, {}, {0: 5}):
            self.assertEqual(report([], rooms), "piece  sender  comes  begins  ends  flowed")
        self.assertEqual(report([]), "piece  sender  comes  begins  ends  flowed")

    def test_rooms_left_out(self):
        self.assertEqual(report(self.row), report(self.row, None))
        self.assertEqual(report(self.row), report(self.row, {}))
        self.assertEqual(report(self.row), report(row=self.row, rooms={0: 4, 1: 8}))

    def test_seeded_rows(self):
        chance = Random(93)
        for count in range(150):
            greatest = chance.choice((5, 50, 10 ** 6))
            latest = chance.choice((5, 100, 10 ** 7))
            times = sorted(chance.randint(0, latest) for piece in range(chance.randint(0, 14)))
            row = [(at, chance.randint(0, 11), chance.randint(1, greatest), chance.randint(1, 9)) for at in times]
            rooms = {who: chance.randint(0, 2 * greatest) for who in range(12) if chance.random() < 0.5}
            told = report(row, rooms)
            self.assertEqual(told, plain_report(row, rooms))
            self.assertEqual(len({len(line) for line in told.split("\n")}), 1)

    def test_sixty_pieces_of_many_shares(self):
        chance = Random(94)
        times = sorted(chance.randint(0, 10 ** 6) for piece in range(60))
        row = [(at, chance.randint(0, 11), chance.randint(1, 10 ** 6), chance.randint(1, 10 ** 6)) for at in times]
        self.assertEqual(report(row), plain_report(row))

    def test_what_is_handed_in_stays(self):
        row = list(self.row)
        rooms = {1: 7, 0: 100}
        report(row, rooms)
        self.assertEqual((row, rooms, list(rooms)), (self.row, {1: 7, 0: 100}, [1, 0]))


if __name__ == "__main__":
    unittest.main()
