import unittest
from fractions import Fraction
from math import gcd
from random import Random

from sharewheel.buckets import Bucket, clipped
from sharewheel.errors import NoCurb, Short
from sharewheel.lines import keeps, line

GREAT = 10 ** 24 + 7
GREATER = 10 ** 39 + 3


class BucketCase(unittest.TestCase):
    def assert_level(self, bucket, at, wanted):
        told = bucket.level(at)
        self.assertIs(type(told), tuple)
        self.assertEqual([type(number) for number in told], [int, int])
        self.assertEqual(gcd(told[0], told[1]), 1)
        self.assertGreaterEqual(told[1], 1)
        self.assertEqual(Fraction(told[0], told[1]), wanted)

    def assert_short(self, bucket, at, length, missing):
        with self.assertRaises(Short) as taken:
            bucket.pay(at, length)
        self.assertEqual(taken.exception.missing, missing)
        self.assertIs(type(taken.exception.missing), tuple)


class Making(BucketCase):
    def test_depths_below_one(self):
        for depth in (0, -1, -GREATER):
            with self.subTest(depth), self.assertRaises(NoCurb):
                Bucket(depth, (1, 2))

    def test_rates_below_nought(self):
        for rate in ((-1, 1), (-1, 2), (-1, GREATER), (-GREATER, GREAT)):
            with self.subTest(rate), self.assertRaises(NoCurb):
                Bucket(5, rate)
            with self.subTest(rate), self.assertRaises(NoCurb):
                Bucket(0, rate, 7)

    def test_the_edges(self):
        for depth, rate in ((1, (0, 1)), (1, (1, GREATER)), (GREATER, (GREATER, 1)), (10 ** 12 + 1, (0, 1))):
            with self.subTest(depth=depth, rate=rate):
                self.assert_level(Bucket(depth, rate), 0, depth)

    def test_the_fields(self):
        bucket = Bucket(7, (2, 3), 11)
        self.assertEqual((bucket.depth, bucket.rate), (7, (2, 3)))
        bucket.pay(12, 5)
        bucket.level(13)
        self.assertEqual((bucket.depth, bucket.rate), (7, (2, 3)))

    def test_full_at_nought(self):
        bucket = Bucket(7, (2, 3))
        self.assert_level(bucket, 0, 7)
        bucket.pay(0, 7)
        self.assert_level(bucket, 0, 0)
        self.assert_level(bucket, 2, Fraction(4, 3))

    def test_full_at_a_told_time(self):
        bucket = Bucket(7, (2, 3), 11)
        self.assert_level(bucket, 11, 7)
        bucket.pay(11, 7)
        self.assert_level(bucket, 11, 0)
        self.assert_level(bucket, 13, Fraction(4, 3))

    def test_the_start_by_its_name(self):
        bucket = Bucket(depth=7, rate=(2, 3), start=11)
        bucket.pay(11, 7)
        self.assert_level(bucket, 12, Fraction(2, 3))

    def test_two_buckets_have_their_own_levels(self):
        one = Bucket(7, (2, 3))
        other = Bucket(7, (2, 3))
        one.pay(0, 7)
        self.assert_level(other, 0, 7)


class Levels(BucketCase):
    def test_it_grows_by_the_rate(self):
        bucket = Bucket(10, (3, 4))
        bucket.pay(0, 10)
        for at, wanted in ((0, 0), (1, Fraction(3, 4)), (2, Fraction(3, 2)), (4, 3), (13, Fraction(39, 4))):
            with self.subTest(at):
                self.assert_level(bucket, at, wanted)

    def test_it_stands_at_the_depth(self):
        bucket = Bucket(10, (3, 4))
        for at in (0, 1, 10 ** 12):
            self.assert_level(bucket, at, 10)
        bucket.pay(0, 3)
        self.assert_level(bucket, 3, Fraction(37, 4))
        for at in (4, 5, 10 ** 12, GREATER):
            self.assert_level(bucket, at, 10)

    def test_what_ran_over_is_gone(self):
        bucket = Bucket(10, (3, 1))
        bucket.pay(100, 10)
        self.assert_level(bucket, 100, 0)
        self.assert_level(bucket, 101, 3)

    def test_it_falls_by_payments(self):
        bucket = Bucket(10, (1, 2))
        self.assertIsNone(bucket.pay(3, 4))
        self.assert_level(bucket, 3, 6)
        self.assertIsNone(bucket.pay(3, 1))
        self.assert_level(bucket, 3, 5)
        self.assertIsNone(bucket.pay(6, 6))
        self.assert_level(bucket, 6, Fraction(1, 2))
        self.assert_level(bucket, 7, 1)

    def test_a_rate_of_nought(self):
        bucket = Bucket(10, (0, 1))
        bucket.pay(5, 4)
        for at in (5, 6, 10 ** 12):
            self.assert_level(bucket, at, 6)

    def test_great_rates(self):
        bucket = Bucket(GREATER, (GREAT, GREATER))
        bucket.pay(0, GREATER)
        self.assert_level(bucket, 1, Fraction(GREAT, GREATER))
        self.assert_level(bucket, GREATER, GREAT)

    def test_asking_changes_nothing(self):
        bucket = Bucket(10, (1, 2))
        bucket.pay(3, 10)
        for at in (4, 23, 1000, 5, 3, 4, 3):
            self.assert_level(bucket, at, min(10, Fraction(at - 3, 2)))
            bucket.holds(1000, 10)
            bucket.holds(1000, 11)
            bucket.when(500, 10)
            bucket.when(4, 10)
        bucket.pay(5, 1)
        self.assert_level(bucket, 5, 0)

    def test_what_is_told_is_new(self):
        bucket = Bucket(10, (1, 2))
        self.assertIsNot(bucket.level(0), bucket.level(0))
        bucket.pay(0, 3)
        self.assertIsNot(bucket.level(0), bucket.level(0))


class Holding(BucketCase):
    def test_just_at_below_and_above(self):
        bucket = Bucket(10, (1, 2))
        bucket.pay(0, 6)
        for at, length, wanted in (
            (0, 3, True), (0, 4, True), (0, 5, False), (1, 4, True), (1, 5, False), (2, 5, True), (2, 6, False),
            (11, 9, True), (11, 10, False), (12, 10, True), (12, 11, False), (10 ** 12, 11, False),
        ):
            with self.subTest(at=at, length=length):
                self.assertIs(bucket.holds(at, length), wanted)

    def test_full(self):
        bucket = Bucket(10, (1, 2), 4)
        self.assertIs(bucket.holds(4, 10), True)
        self.assertIs(bucket.holds(4, 11), False)
        self.assertIs(bucket.holds(4, 1), True)

    def test_by_a_hair(self):
        bucket = Bucket(10, (GREATER - 1, GREATER))
        bucket.pay(0, 10)
        self.assertIs(bucket.holds(1, 1), False)
        self.assertIs(bucket.holds(2, 1), True)
        self.assertIs(bucket.holds(2, 2), False)


class Paying(BucketCase):
    def test_just_what_is_there(self):
        bucket = Bucket(10, (1, 2))
        bucket.pay(0, 10)
        bucket.pay(2, 1)
        self.assert_level(bucket, 2, 0)

    def test_short(self):
        bucket = Bucket(10, (1, 2))
        self.assert_short(bucket, 0, 11, (1, 1))
        bucket.pay(0, 10)
        self.assert_short(bucket, 0, 1, (1, 1))
        self.assert_short(bucket, 1, 1, (1, 2))
        self.assert_short(bucket, 3, 5, (7, 2))
        self.assert_short(bucket, 1000, 13, (3, 1))

    def test_short_in_lowest_terms(self):
        bucket = Bucket(10, (2, 3))
        bucket.pay(0, 10)
        self.assert_short(bucket, 3, 4, (2, 1))
        self.assert_short(bucket, 1, 1, (1, 3))

    def test_short_changes_nothing(self):
        bucket = Bucket(10, (1, 2))
        bucket.pay(0, 8)
        self.assert_short(bucket, 6, 6, (1, 1))
        self.assert_short(bucket, 100, 11, (1, 1))
        for at, wanted in ((0, 2), (1, Fraction(5, 2)), (6, 5), (16, 10)):
            self.assert_level(bucket, at, wanted)
        bucket.pay(6, 5)
        self.assert_level(bucket, 6, 0)

    def test_short_ahead_of_any_payment_changes_nothing(self):
        bucket = Bucket(10, (1, 2), 5)
        self.assert_short(bucket, 9, 12, (2, 1))
        bucket.pay(5, 10)
        self.assert_level(bucket, 6, Fraction(1, 2))


class When(BucketCase):
    def test_at_once(self):
        bucket = Bucket(10, (1, 2), 3)
        self.assertEqual(bucket.when(3, 1), 3)
        self.assertEqual(bucket.when(3, 10), 3)
        self.assertEqual(bucket.when(50, 10), 50)
        bucket.pay(50, 6)
        self.assertEqual(bucket.when(50, 4), 50)
        self.assertEqual(bucket.when(52, 5), 52)

    def test_later(self):
        bucket = Bucket(10, (3, 4))
        bucket.pay(0, 10)
        for at, length, wanted in (
            (0, 1, 2), (0, 2, 3), (0, 3, 4), (0, 4, 6), (0, 10, 14), (1, 3, 4), (4, 3, 4), (5, 3, 5), (5, 10, 14),
        ):
            with self.subTest(at=at, length=length):
                self.assertEqual(bucket.when(at, length), wanted)

    def test_never_by_a_length_above_the_depth(self):
        bucket = Bucket(10, (3, 4))
        for at in (0, 7, 10 ** 12):
            self.assertIsNone(bucket.when(at, 11))
        bucket.pay(0, 10)
        self.assertIsNone(bucket.when(0, 11))
        self.assertIsNone(bucket.when(10 ** 12, GREATER))

    def test_never_by_a_rate_of_nought(self):
        bucket = Bucket(10, (0, 1))
        self.assertEqual(bucket.when(6, 10), 6)
        self.assertIsNone(bucket.when(6, 11))
        bucket.pay(6, 7)
        self.assertEqual(bucket.when(6, 3), 6)
        self.assertEqual(bucket.when(9, 3), 9)
        self.assertIsNone(bucket.when(6, 4))
        self.assertIsNone(bucket.when(10 ** 12, 10))

    def test_a_hair_too_late(self):
        bucket = Bucket(1, (1, GREATER))
        bucket.pay(0, 1)
        self.assertEqual(bucket.when(0, 1), GREATER)
        self.assertEqual(bucket.when(GREATER + 1, 1), GREATER + 1)
        bucket = Bucket(2, (GREATER - 1, GREATER))
        bucket.pay(0, 2)
        self.assertEqual(bucket.when(0, 1), 2)
        self.assertEqual(bucket.when(0, 2), 3)

    def test_the_very_tick_and_the_one_ahead_of_it(self):
        chance = Random(3)
        for number in range(300):
            depth = chance.randrange(1, 20)
            rate = Fraction(chance.randrange(1, 9), chance.randrange(1, 9))
            start = chance.randrange(50)
            bucket = Bucket(depth, (rate.numerator, rate.denominator), start)
            bucket.pay(start, chance.randrange(1, depth + 1))
            at = start + chance.randrange(4)
            length = chance.randrange(1, depth + 1)
            tick = bucket.when(at, length)
            with self.subTest(depth=depth, rate=rate, at=at, length=length):
                self.assertGreaterEqual(tick, at)
                self.assertIs(bucket.holds(tick, length), True)
                if tick > at:
                    self.assertIs(bucket.holds(tick - 1, length), False)
                bucket.pay(tick, length)


class ClippedCase(unittest.TestCase):
    def assert_clipped(self, row, lines, wanted):
        kept = (list(row), list(lines))
        told = clipped(row, lines)
        self.assertIs(type(told), list)
        self.assertEqual(told, wanted)
        self.assertIsNot(told, row)
        self.assertEqual((row, lines), kept)


class Clipped(ClippedCase):
    def test_nothing(self):
        self.assert_clipped([], [], [])
        self.assert_clipped([], [(5, (1, 2)), None], [])

    def test_one_sender(self):
        row = [(0, 0, 3, 1), (0, 0, 2, 1), (2, 0, 2, 1), (2, 0, 1, 1)]
        self.assert_clipped(row, [(5, (1, 2))], [row[0], row[1], row[3]])
        self.assert_clipped(row, [(6, (1, 2))], [row[0], row[1], row[2]])
        self.assert_clipped(row, [(7, (1, 2))], row)

    def test_what_is_left_out_does_not_count(self):
        row = [(0, 0, 6, 1), (0, 0, 5, 1), (1, 0, 9, 1), (2, 0, 2, 1), (4, 0, 1, 1)]
        self.assert_clipped(row, [(5, (1, 2))], [row[1], row[4]])
        self.assert_clipped(row, [(5, (1, 1))], [row[1], row[3], row[4]])

    def test_with_none_and_beyond_the_list(self):
        row = [(0, 2, 9, 1), (0, 1, 9, 1), (0, 0, 9, 1), (0, 0, 4, 1), (0, 11, 9, 1), (1, 1, 9, 1), (1, 2, 9, 1)]
        without = [piece for piece in row if piece != (0, 0, 9, 1)]
        self.assert_clipped(row, [(5, (1, 2)), None], without)
        self.assert_clipped(row, [(5, (1, 2))], without)
        self.assert_clipped(row, [None, None, None], row)
        self.assert_clipped(row, [], row)

    def test_each_sender_has_its_own_bucket(self):
        row = [(0, 0, 5, 1), (0, 1, 5, 1), (0, 2, 5, 1), (0, 2, 5, 1), (0, 1, 1, 1), (2, 0, 1, 1), (2, 1, 2, 1)]
        same = (5, (1, 2))
        self.assert_clipped(row, [same, same, None], [row[0], row[1], row[2], row[3], row[5]])
        self.assert_clipped(row, [None, (5, (1, 1)), (4, (0, 1))], [row[0], row[1], row[5], row[6]])

    def test_the_last_of_twelve(self):
        row = [(0, 11, 5, 1), (0, 11, 1, 1), (0, 10, 7, 1)]
        self.assert_clipped(row, [None] * 11 + [(5, (0, 1))], [row[0], row[2]])

    def test_the_buckets_are_full_at_nought(self):
        row = [(3, 0, 5, 1), (3, 0, 1, 1), (4, 0, 1, 1), (9, 0, 4, 1)]
        self.assert_clipped(row, [(5, (1, 1))], [row[0], row[2], row[3]])

    def test_a_row_that_keeps_its_lines_stays_whole(self):
        row = [(0, 0, 5, 1), (3, 0, 1, 1), (3, 1, 9, 1), (9, 0, 3, 1)]
        lines = [(5, (1, 2)), (9, (0, 1))]
        self.assertTrue(all(keeps(row, who, by) for who, by in enumerate(lines)))
        self.assert_clipped(row, lines, row)

    def test_what_is_told_is_new(self):
        row = [(0, 0, 5, 1), (0, 1, 5, 1)]
        lines = [(5, (1, 2))]
        told = clipped(row, lines)
        self.assertIsNot(told[0], row[0])
        self.assertIsNot(told[1], row[1])
        told.append("more")
        self.assertEqual(row, [(0, 0, 5, 1), (0, 1, 5, 1)])
        self.assertEqual(clipped(row, lines), row)

    def test_later_changes_do_not_reach_it(self):
        row = [(0, 0, 5, 1), (0, 1, 5, 1)]
        lines = [(5, (1, 2))]
        told = clipped(row, lines)
        row.clear()
        lines.clear()
        self.assertEqual(told, [(0, 0, 5, 1), (0, 1, 5, 1)])

    def test_two_calls_do_not_share_buckets(self):
        row = [(0, 0, 5, 1)]
        lines = [(5, (0, 1))]
        self.assert_clipped(row, lines, row)
        self.assert_clipped(row, lines, row)


def some_row(chance):
    at = 0
    row = []
    for place in range(chance.randrange(25)):
        at += chance.choice((0, 0, 1, 2, 5))
        row.append((at, chance.randrange(4), chance.randrange(1, 7), chance.randrange(1, 4)))
    return row


def some_lines(chance):
    lines = []
    for who in range(chance.randrange(5)):
        rate = Fraction(chance.randrange(5), chance.randrange(1, 5))
        by = line(chance.randrange(1, 12), (rate.numerator, rate.denominator))
        lines.append(chance.choice((None, by, by, by)))
    return lines


def plain_clipped(row, lines):
    """A piece stays where the pieces that stayed so far keep its sender's line with it."""
    staying = []
    for piece in row:
        by = lines[piece[1]] if piece[1] < len(lines) else None
        if by is None or keeps(staying + [piece], piece[1], by):
            staying.append(piece)
    return staying


class ManyClipped(ClippedCase):
    def test_many_rows(self):
        chance = Random(11)
        for number in range(300):
            row = some_row(chance)
            lines = some_lines(chance)
            with self.subTest(row=row, lines=lines):
                self.assert_clipped(row, lines, plain_clipped(row, lines))
                told = clipped(row, lines)
                for who, by in enumerate(lines):
                    if by is not None:
                        self.assertTrue(keeps(told, who, by))
                self.assert_clipped(told, lines, told)


if __name__ == "__main__":
    unittest.main()
