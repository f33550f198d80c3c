"""5.5 and the whole of 0.3 for senders that keep their planned lines."""

import unittest
from fractions import Fraction
from random import Random

from sharewheel.buckets import clipped
from sharewheel.flows import flow, flowed, spans
from sharewheel.lines import keeps
from sharewheel.pieces import came, longest
from sharewheel.plans import piles, rooms_for, waits
from sharewheel.wheels import dealt, piled, waited

PLAN = [(1, (4, (0, 1))), (3, (3, (1, 2)))]


def number(one):
    return Fraction(one[0], one[1])


def some_plan(chance):
    count = chance.randint(1, 6)
    weights = [chance.choice((0, 1, 2, 5)) for place in range(count)]
    bottom = sum(weights) + chance.choice((1, 1, 4))
    senders = []
    for weight in weights:
        rate = Fraction(weight, bottom)
        senders.append((chance.randint(1, 9), (chance.randint(1, 20), (rate.numerator, rate.denominator))))
    return senders


def greedy_row(chance, senders):
    """Far more than the lines let through, so that what is left by clipping comes as early as it may."""
    row = []
    at = chance.choice((0, 5))
    while len(row) < 150:
        for who in chance.sample(range(len(senders)), len(senders)):
            greatest = min(senders[who][1][0], chance.choice((1, 3, 20)))
            for turn in range(chance.randint(0, 3)):
                row.append((at, who, chance.randint(1, greatest), senders[who][0]))
        at += chance.choice((1, 1, 2, 9))
    return clipped(row, [line for share, line in senders])[:60]


def some_cases():
    chance = Random(61)
    for turn in range(60):
        senders = some_plan(chance)
        yield (senders, greedy_row(chance, senders))


def comings_and_flowed(row, who):
    """At each coming, how much of a sender has flowed out, by one flow of the row."""
    stretches = flow(row)
    for at in sorted({piece[0] for piece in row}):
        yield (at, sum(
            number(rate) * (min(number(end), at) - number(start))
            for start, end, parts in stretches for place, rate in parts
            if row[place][1] == who and number(start) < at
        ))


class Kept(unittest.TestCase):
    def moments(self, row):
        last = max(piece[0] for piece in row) + sum(piece[2] for piece in row)
        return sorted({piece[0] for piece in row} | set(range(0, last + 2, max(1, last // 40))))

    def test_the_rows_are_as_asked(self):
        for senders, row in some_cases():
            self.assertGreater(len(row), 0)
            self.assertLessEqual(len(row), 60)
            for who, (share, line) in enumerate(senders):
                self.assertTrue(keeps(row, who, line))
                self.assertEqual({piece[3] for piece in row if piece[1] == who} - {share}, set())

    def test_no_piece_takes_longer_in_the_flowing_road_than_planned(self):
        for senders, row in some_cases():
            with self.subTest(senders=senders, row=row):
                planned = [number(wait) for wait in waits(senders)]
                for piece, span in zip(row, spans(row)):
                    self.assertLessEqual(number(span[1]) - piece[0], planned[piece[1]])

    def test_no_pile_is_greater_than_planned(self):
        for senders, row in some_cases():
            with self.subTest(senders=senders, row=row):
                for who, pile in enumerate(piles(senders)):
                    for at, out in comings_and_flowed(row, who):
                        self.assertLessEqual(came(row, who, 0, at) - out, number(pile))
                    last = row[-1][0]
                    self.assertLessEqual(came(row, who, 0, last) - number(flowed(row, who, last)), number(pile))

    def test_the_wheel_passes_neither_by_more_than_the_greatest_length(self):
        for senders, row in some_cases():
            with self.subTest(senders=senders, row=row):
                goings = dealt(row)[0]
                planned = [number(wait) for wait in waits(senders)]
                for place, time in waited(row, goings):
                    self.assertLessEqual(time, planned[row[place][1]] + longest(row))
                for who, pile in enumerate(piles(senders)):
                    for at in self.moments(row):
                        self.assertLessEqual(piled(row, goings, who, at), number(pile) + longest(row))

    def test_with_the_planned_rooms_nothing_is_dropped(self):
        for senders, row in some_cases():
            with self.subTest(senders=senders, row=row):
                for length in (longest(row), longest(row) + 5):
                    goings, dropped = dealt(row, rooms_for(senders, length))
                    self.assertEqual(dropped, [])
                    self.assertEqual(goings, dealt(row)[0])


class ThePlan(unittest.TestCase):
    """The plan of 5.3 with pieces that come as early as its lines let them."""

    ROW = [(0, 0, 4, 1), (0, 1, 3, 3)] + [(2 * turn, 1, 1, 3) for turn in range(1, 9)]

    def test_the_waits_in_the_flowing_road(self):
        self.assertTrue(keeps(self.ROW, 0, PLAN[0][1]))
        self.assertTrue(keeps(self.ROW, 1, PLAN[1][1]))
        flowing = spans(self.ROW)
        self.assertEqual(flowing[1], ((0, 1), (4, 1)))
        self.assertEqual(flowing[0], ((0, 1), (12, 1)))

    def test_the_rooms_come_to_their_use(self):
        rooms = rooms_for(PLAN, 4)
        self.assertEqual(rooms, {0: 8, 1: 7})
        self.assertEqual(dealt(self.ROW, rooms)[1], [])
        self.assertEqual(dealt(self.ROW, {0: 3, 1: 2})[1][:2], [0, 1])

    def test_the_piles_are_come_to(self):
        self.assertEqual([came(self.ROW, who, 0, 0) for who in (0, 1)], [4, 3])
        self.assertEqual(piles(PLAN), [(4, 1), (3, 1)])


if __name__ == "__main__":
    unittest.main()
