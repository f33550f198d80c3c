import unittest
from fractions import Fraction
from math import gcd
from random import Random

from sharewheel.errors import NoLine, WheelError
from sharewheel.lines import allowed, breach, keeps, line

GREATEST = 10 ** 12
GREAT = 10 ** 24 + 7
GREATER = 10 ** 39 + 3
LENGTHS = [(0, 0, 3, 1), (0, 0, 2, 1), (2, 0, 2, 1), (2, 0, 1, 1)]


class LineCase(unittest.TestCase):
    def assert_line(self, burst, rate):
        told = line(burst, rate)
        self.assertIs(type(told), tuple)
        self.assertEqual(told, (burst, rate))
        self.assertIs(type(told[1]), tuple)

    def assert_fraction(self, one, wanted):
        self.assertIs(type(one), tuple)
        self.assertEqual([type(number) for number in one], [int, int])
        self.assertGreaterEqual(one[1], 1)
        self.assertEqual(gcd(one[0], one[1]), 1)
        self.assertEqual(Fraction(one[0], one[1]), wanted)


class Making(LineCase):
    def test_bursts_at_the_edges(self):
        for burst in (1, 2, GREATEST - 1, GREATEST):
            with self.subTest(burst):
                self.assert_line(burst, (1, 2))

    def test_bursts_out_of_their_range(self):
        for burst in (0, -1, -GREATEST, GREATEST + 1, GREATER, -GREATER):
            with self.subTest(burst), self.assertRaises(NoLine):
                line(burst, (1, 2))

    def test_rates(self):
        for rate in ((0, 1), (1, 1), (7, 2), (1, GREATER), (GREATER, 1), (GREAT, GREATER), (GREATER, GREAT)):
            with self.subTest(rate):
                self.assert_line(5, rate)

    def test_rates_below_nought(self):
        for rate in ((-1, 1), (-1, 2), (-1, GREATER), (-GREATER, GREAT)):
            with self.subTest(rate), self.assertRaises(NoLine):
                line(5, rate)

    def test_both_wrong(self):
        for burst in (0, GREATEST + 1):
            with self.subTest(burst), self.assertRaises(NoLine):
                line(burst, (-1, 2))

    def test_the_refusal_is_a_wheel_error(self):
        with self.assertRaises(WheelError):
            line(0, (0, 1))

    def test_what_is_told_is_new(self):
        rate = (1, 3)
        self.assertIsNot(line(5, rate), line(5, rate))
        self.assertIsNot(line(5, rate)[1], rate)


class Allowed(LineCase):
    def test_at_nought(self):
        for rate in ((0, 1), (1, 2), (GREAT, GREATER)):
            with self.subTest(rate):
                self.assertEqual(allowed((5, rate), 0), (5, 1))
        self.assertEqual(allowed((GREATEST, (1, 2)), 0), (GREATEST, 1))

    def test_at_small_times(self):
        self.assertEqual(allowed((5, (1, 2)), 1), (11, 2))
        self.assertEqual(allowed((5, (1, 2)), 2), (6, 1))
        self.assertEqual(allowed((5, (5, 6)), 3), (15, 2))
        self.assertEqual(allowed((1, (7, 1)), 3), (22, 1))

    def test_at_great_times(self):
        self.assertEqual(allowed((5, (1, 2)), 10 ** 12), (5 + 5 * 10 ** 11, 1))
        self.assertEqual(allowed((5, (1, GREATER)), GREATER), (6, 1))
        self.assertEqual(allowed((5, (3, 7)), GREATER), (35 + 3 * GREATER, 7))

    def test_by_a_rate_of_nought(self):
        for time in (0, 1, 10 ** 12, GREATER):
            with self.subTest(time):
                self.assertEqual(allowed((5, (0, 1)), time), (5, 1))

    def test_in_lowest_terms(self):
        for burst in (1, 6, GREATEST):
            for rate in ((1, 6), (5, 4), (GREAT, GREATER), (GREATER, GREAT)):
                for time in (0, 1, 2, 3, 4, 12, GREAT):
                    with self.subTest(burst=burst, rate=rate, time=time):
                        wanted = burst + Fraction(rate[0], rate[1]) * time
                        self.assert_fraction(allowed((burst, rate), time), wanted)

    def test_what_is_told_is_new(self):
        self.assertIsNot(allowed((5, (1, 2)), 2), allowed((5, (1, 2)), 2))


def plain_breach(row, who, burst, rate):
    """All pairs of pieces, looked at one by one."""
    pairs = []
    for last, end in enumerate(row):
        for first, start in enumerate(row[:last + 1]):
            if start[1] == who and end[1] == who:
                came = sum(piece[2] for piece in row[first:last + 1] if piece[1] == who)
                if came > burst + rate * (end[0] - start[0]):
                    pairs.append((last, -first))
    return (-min(pairs)[1], min(pairs)[0]) if pairs else None


class BreachCase(unittest.TestCase):
    def assert_breach(self, row, who, by, wanted):
        kept = list(row)
        told = breach(row, who, by)
        self.assertEqual(told, wanted)
        if wanted is not None:
            self.assertIs(type(told), tuple)
        self.assertIs(keeps(row, who, by), wanted is None)
        self.assertEqual(row, kept)


class Breach(BreachCase):
    def test_the_example(self):
        self.assert_breach(LENGTHS, 0, (5, (1, 2)), (0, 2))

    def test_the_example_by_other_lines(self):
        self.assert_breach(LENGTHS, 0, (4, (1, 2)), (0, 1))
        self.assert_breach(LENGTHS, 0, (6, (1, 2)), (0, 3))
        self.assert_breach(LENGTHS, 0, (7, (1, 2)), None)
        self.assert_breach(LENGTHS, 0, (5, (1, 1)), (0, 3))
        self.assert_breach(LENGTHS, 0, (5, (3, 2)), None)

    def test_a_single_piece(self):
        for length, wanted in ((4, None), (5, None), (6, (0, 0)), (10 ** 6, (0, 0))):
            with self.subTest(length):
                self.assert_breach([(7, 0, length, 1)], 0, (5, (100, 1)), wanted)

    def test_a_single_piece_behind_good_ones(self):
        row = [(0, 0, 5, 1), (10, 0, 5, 1), (20, 0, 6, 1), (20, 0, 9, 1)]
        self.assert_breach(row, 0, (5, (1, 1)), (2, 2))

    def test_by_a_rate_of_nought(self):
        row = [(0, 0, 2, 1), (10 ** 6, 0, 2, 1), (10 ** 12, 0, 1, 1)]
        self.assert_breach(row, 0, (5, (0, 1)), None)
        self.assert_breach(row, 0, (4, (0, 1)), (0, 2))
        self.assert_breach(row, 0, (3, (0, 1)), (0, 1))
        self.assert_breach(row, 0, (1, (0, 1)), (0, 0))

    def test_just_what_may_come_keeps_the_line(self):
        row = [(0, 0, 5, 1), (3, 0, 1, 1)]
        self.assert_breach(row, 0, (5, (1, 3)), None)
        self.assert_breach(row, 0, (5, (10 ** 30 - 1, 3 * 10 ** 30)), (0, 1))
        self.assert_breach([(0, 0, 5, 1), (2, 0, 1, 1)], 0, (5, (1, 3)), (0, 1))

    def test_pieces_of_others_do_not_count(self):
        row = [
            (0, 1, 100, 1), (0, 0, 3, 1), (0, 2, 100, 1), (0, 0, 2, 1), (1, 1, 100, 1),
            (2, 0, 2, 1), (2, 3, 100, 1), (2, 0, 1, 1), (9, 1, 100, 1),
        ]
        self.assert_breach(row, 0, (5, (1, 2)), (1, 5))
        self.assert_breach(row, 0, (7, (1, 2)), None)
        self.assert_breach(row, 1, (5, (1, 2)), (0, 0))
        self.assert_breach(row, 1, (100, (1, 2)), (0, 4))
        self.assert_breach(row, 3, (100, (0, 1)), None)

    def test_the_least_last_though_a_later_one_has_a_greater_first(self):
        row = [(0, 0, 3, 1), (0, 0, 3, 1), (9, 0, 6, 1), (9, 0, 9, 1)]
        self.assert_breach(row, 0, (5, (1, 1)), (0, 1))

    def test_of_one_last_the_greatest_first(self):
        row = [(0, 0, 2, 1), (0, 0, 2, 1), (0, 0, 2, 1), (0, 0, 4, 1)]
        self.assert_breach(row, 0, (7, (1, 1)), (1, 3))
        self.assert_breach(row, 0, (5, (1, 1)), (0, 2))
        self.assert_breach([(0, 0, 1, 1), (0, 0, 5, 1), (1, 0, 6, 1)], 0, (5, (1, 1)), (0, 1))

    def test_the_greatest_first_may_be_ahead_of_pairs_that_keep_the_line(self):
        row = [(0, 0, 4, 1), (0, 0, 4, 1), (0, 1, 9, 1), (4, 0, 4, 1), (5, 0, 4, 1), (6, 0, 4, 1)]
        self.assert_breach(row, 0, (8, (1, 1)), (0, 4))
        self.assert_breach(row, 0, (10, (1, 1)), (0, 4))
        self.assert_breach(row, 0, (11, (1, 1)), (0, 5))
        self.assert_breach(row, 0, (14, (1, 1)), None)

    def test_the_share_does_not_count(self):
        row = [(0, 0, 3, 10 ** 6), (2, 0, 3, 1)]
        self.assert_breach(row, 0, (5, (1, 2)), None)

    def test_a_sender_without_pieces(self):
        self.assert_breach([], 0, (1, (0, 1)), None)
        self.assert_breach(LENGTHS, 1, (1, (0, 1)), None)

    def test_great_rates(self):
        row = [(0, 0, 10 ** 6, 1), (1, 0, 10 ** 6, 1), (2, 0, 10 ** 6, 1)]
        self.assert_breach(row, 0, (10 ** 6, (GREATER, 1)), None)
        self.assert_breach(row, 0, (10 ** 6, (1, GREATER)), (0, 1))
        self.assert_breach(row, 0, (GREATEST, (0, 1)), None)

    def test_many_rows(self):
        chance = Random(5)
        for number in range(400):
            at = 0
            row = []
            for place in range(chance.randrange(13)):
                at += chance.choice((0, 0, 1, 2, 5))
                row.append((at, chance.randrange(3), chance.randrange(1, 6), 1))
            burst = chance.randrange(1, 12)
            rate = Fraction(chance.randrange(6), chance.randrange(1, 5))
            by = (burst, (rate.numerator, rate.denominator))
            for who in range(3):
                with self.subTest(row=row, who=who, by=by):
                    self.assert_breach(row, who, by, plain_breach(row, who, burst, rate))


if __name__ == "__main__":
    unittest.main()
