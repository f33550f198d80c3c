import unittest
from fractions import Fraction
from math import gcd
from random import Random

from sharewheel.flows import flow, flowed, spans
from sharewheel.tides import Tide

ROW = [(0, 0, 4, 1), (0, 1, 4, 3), (0, 1, 4, 3)]


def told(number):
    number = Fraction(number)
    return (number.numerator, number.denominator)


def number(one):
    return Fraction(one[0], one[1])


def told_stretch(start, end, parts):
    return (told(start), told(end), [(place, told(rate)) for place, rate in parts])


class FlowCase(unittest.TestCase):
    def assert_fraction(self, one):
        self.assertIs(type(one), tuple)
        self.assertEqual([type(part) for part in one], [int, int])
        self.assertGreaterEqual(one[1], 1)
        self.assertEqual(gcd(one[0], one[1]), 1)

    def assert_spans(self, row, wanted):
        kept = list(row)
        answer = spans(row)
        self.assertIs(type(answer), list)
        self.assertEqual(answer, [(told(begin), told(end)) for begin, end in wanted])
        for span in answer:
            self.assertIs(type(span), tuple)
            self.assert_fraction(span[0])
            self.assert_fraction(span[1])
        self.assertEqual(row, kept)

    def assert_flow(self, row, wanted):
        kept = list(row)
        answer = flow(row)
        self.assertIs(type(answer), list)
        self.assertEqual(answer, [told_stretch(*stretch) for stretch in wanted])
        for stretch in answer:
            self.assertEqual([type(part) for part in stretch], [tuple, tuple, list])
            self.assert_fraction(stretch[0])
            self.assert_fraction(stretch[1])
            for part in stretch[2]:
                self.assertEqual((type(part), type(part[0])), (tuple, int))
                self.assert_fraction(part[1])
        self.assertEqual(row, kept)

    def assert_flowed(self, row, who, amounts):
        kept = list(row)
        for at, wanted in amounts:
            with self.subTest(who=who, at=at):
                answer = flowed(row, who, at)
                self.assert_fraction(answer)
                self.assertEqual(number(answer), wanted)
        self.assertEqual(row, kept)


THIRD = Fraction(1, 3)
QUARTER = Fraction(1, 4)
HALF = Fraction(1, 2)


class TheRow(FlowCase):
    def test_the_spans(self):
        self.assert_spans(ROW, [(0, 12), (0, 16 * THIRD), (16 * THIRD, 32 * THIRD)])

    def test_the_flow(self):
        self.assert_flow(ROW, [
            (0, 16 * THIRD, [(0, QUARTER), (1, 3 * QUARTER)]),
            (16 * THIRD, 32 * THIRD, [(0, QUARTER), (2, 3 * QUARTER)]),
            (32 * THIRD, 12, [(0, 1)]),
        ])

    def test_what_has_flowed(self):
        self.assert_flowed(ROW, 0, [(0, 0), (1, QUARTER), (5, 5 * QUARTER), (6, 6 * QUARTER), (11, 3), (12, 4), (99, 4)])
        self.assert_flowed(ROW, 1, [(0, 0), (1, 3 * QUARTER), (6, 18 * QUARTER), (10, 30 * QUARTER), (11, 8), (12, 8)])
        self.assert_flowed(ROW, 2, [(0, 0), (6, 0), (99, 0)])


class Without(FlowCase):
    def test_a_row_without_pieces(self):
        self.assert_spans([], [])
        self.assert_flow([], [])
        self.assert_flowed([], 0, [(0, 0), (7, 0), (10 ** 12, 0)])


class OneSender(FlowCase):
    def test_one_piece(self):
        self.assert_spans([(0, 3, 5, 7)], [(0, 5)])
        self.assert_flow([(0, 3, 5, 7)], [(0, 5, [(0, 1)])])
        self.assert_spans([(6, 3, 5, 7)], [(6, 11)])
        self.assert_flow([(6, 3, 5, 7)], [(6, 11, [(0, 1)])])

    def test_pieces_one_behind_the_other(self):
        row = [(2, 3, 5, 7), (2, 3, 1, 2), (4, 3, 3, 1)]
        self.assert_spans(row, [(2, 7), (7, 8), (8, 11)])
        self.assert_flow(row, [(2, 4, [(0, 1)]), (4, 7, [(0, 1)]), (7, 8, [(1, 1)]), (8, 11, [(2, 1)])])
        self.assert_flowed(row, 3, [(0, 0), (2, 0), (3, 1), (8, 6), (10, 8), (11, 9), (12, 9)])

    def test_a_piece_comes_just_when_the_one_ahead_ends(self):
        row = [(0, 3, 5, 7), (5, 3, 2, 1)]
        self.assert_spans(row, [(0, 5), (5, 7)])
        self.assert_flow(row, [(0, 5, [(0, 1)]), (5, 7, [(1, 1)])])

    def test_rests(self):
        row = [(1, 3, 2, 7), (5, 3, 2, 7), (10 ** 12, 3, 1, 1)]
        self.assert_spans(row, [(1, 3), (5, 7), (10 ** 12, 10 ** 12 + 1)])
        self.assert_flow(row, [(1, 3, [(0, 1)]), (5, 7, [(1, 1)]), (10 ** 12, 10 ** 12 + 1, [(2, 1)])])
        self.assert_flowed(row, 3, [(1, 0), (2, 1), (3, 2), (4, 2), (5, 2), (6, 3), (7, 4), (10 ** 12, 4), (10 ** 13, 5)])


class SeveralSenders(FlowCase):
    def test_alike(self):
        row = [(0, 0, 3, 2), (0, 1, 3, 2), (0, 2, 3, 2)]
        self.assert_spans(row, [(0, 9), (0, 9), (0, 9)])
        self.assert_flow(row, [(0, 9, [(0, THIRD), (1, THIRD), (2, THIRD)])])

    def test_comings_while_others_flow(self):
        row = [(0, 0, 6, 1), (2, 1, 2, 1), (3, 0, 1, 1), (3, 2, 3, 2)]
        self.assert_flow(row, [
            (0, 2, [(0, 1)]),
            (2, 3, [(0, HALF), (1, HALF)]),
            (3, 9, [(0, QUARTER), (1, QUARTER), (3, HALF)]),
            (9, 11, [(0, 1)]),
            (11, 12, [(2, 1)]),
        ])
        self.assert_spans(row, [(0, 11), (2, 9), (11, 12), (3, 9)])
        self.assert_flowed(row, 0, [(2, 2), (3, 5 * HALF), (5, 3), (9, 4), (10, 5), (11, 6), (12, 7), (13, 7)])
        self.assert_flowed(row, 1, [(2, 0), (3, HALF), (9, 2), (13, 2)])
        self.assert_flowed(row, 2, [(3, 0), (4, HALF), (9, 3), (13, 3)])

    def test_a_stretch_ends_at_a_coming_though_the_same_heads_flow_on(self):
        row = [(0, 0, 6, 1), (0, 1, 6, 1), (4, 0, 1, 5), (4, 1, 1, 5), (7, 0, 1, 1)]
        both = [(0, HALF), (1, HALF)]
        self.assert_flow(row, [
            (0, 4, both), (4, 7, both), (7, 12, both), (12, 14, [(2, HALF), (3, HALF)]), (14, 15, [(4, 1)]),
        ])

    def test_a_piece_ends_just_at_a_coming(self):
        row = [(0, 0, 2, 1), (0, 1, 4, 1), (4, 2, 2, 1)]
        self.assert_flow(row, [
            (0, 4, [(0, HALF), (1, HALF)]), (4, 8, [(1, HALF), (2, HALF)]),
        ])
        self.assert_spans(row, [(0, 4), (0, 8), (4, 8)])

    def test_rests_between_several_senders(self):
        row = [(0, 0, 1, 1), (0, 1, 1, 1), (5, 1, 1, 1), (5, 0, 1, 3)]
        self.assert_flow(row, [
            (0, 2, [(0, HALF), (1, HALF)]),
            (5, 5 + 4 * THIRD, [(2, QUARTER), (3, 3 * QUARTER)]),
            (5 + 4 * THIRD, 7, [(2, 1)]),
        ])
        self.assert_spans(row, [(0, 2), (0, 2), (5, 7), (5, 5 + 4 * THIRD)])

    def test_the_share_is_that_of_the_head(self):
        row = [(0, 0, 2, 1), (0, 0, 3, 3), (0, 1, 4, 1)]
        self.assert_flow(row, [
            (0, 4, [(0, HALF), (2, HALF)]),
            (4, 8, [(1, 3 * QUARTER), (2, QUARTER)]),
            (8, 9, [(2, 1)]),
        ])

    def test_parts_stand_by_rising_place(self):
        row = [(0, 5, 1, 1), (0, 0, 9, 1), (0, 5, 9, 1), (0, 2, 9, 1)]
        self.assert_flow(row, [
            (0, 3, [(0, THIRD), (1, THIRD), (3, THIRD)]),
            (3, 27, [(1, THIRD), (2, THIRD), (3, THIRD)]),
            (27, 28, [(2, 1)]),
        ])


class New(FlowCase):
    def test_what_is_told_is_the_askers_own(self):
        row = list(ROW)
        first = flow(row)
        wanted = flow(row)
        self.assertIsNot(first, wanted)
        first[0][2].append("more")
        first.clear()
        begun = spans(row)
        begun.clear()
        self.assertEqual(flow(row), wanted)
        self.assertEqual(len(spans(row)), 3)
        self.assertEqual(row, ROW)

    def test_each_stretch_has_its_own_parts(self):
        row = [(0, 0, 6, 1), (4, 0, 1, 1)]
        answer = flow(row)
        self.assertEqual(answer[0][2], answer[1][2])
        answer[0][2].append("more")
        self.assertEqual(answer[1][2], [(0, (1, 1))])

    def test_later_changes_of_the_row_do_not_reach_it(self):
        row = list(ROW)
        stretches = flow(row)
        begun = spans(row)
        row.clear()
        self.assertEqual((stretches, begun), (flow(ROW), spans(ROW)))

    def test_nought_is_a_new_one_each_time(self):
        self.assertIsNot(flowed(ROW, 2, 0), flowed(ROW, 2, 0))


class NotLookedOver(FlowCase):
    def test_what_lies_beyond_the_bounds_is_not_refused(self):
        row = [(10 ** 12 + 5, 12, 10 ** 6 + 2, 10 ** 6 + 1), (10 ** 12 + 5, 40, 10 ** 6 + 2, 10 ** 6 + 1)]
        end = 10 ** 12 + 5 + 2 * (10 ** 6 + 2)
        self.assert_spans(row, [(10 ** 12 + 5, end), (10 ** 12 + 5, end)])
        self.assert_flowed(row, 40, [(10 ** 12 + 6, HALF), (end, 10 ** 6 + 2)])

    def test_a_piece_without_length(self):
        row = [(1, 0, 0, 1), (1, 0, 2, 1), (2, 0, 0, 1), (2, 0, 1, 1)]
        self.assert_spans(row, [(1, 1), (1, 3), (3, 3), (3, 4)])
        self.assert_flow(row, [(1, 2, [(1, 1)]), (2, 3, [(1, 1)]), (3, 4, [(3, 1)])])


def plain_heads(row, left, moment):
    heads = {}
    for place, piece in enumerate(row):
        if piece[0] <= moment and left[place] > 0:
            heads.setdefault(piece[1], place)
    return sorted(heads.values())


def plain_flow(row):
    """The words of 3.1, step by step: how much is left of each piece, from moment to moment."""
    left = [Fraction(piece[2]) for piece in row]
    moment = Fraction(0)
    stretches = []
    while any(left):
        heads = plain_heads(row, left, moment)
        shares = sum(row[place][3] for place in heads)
        rates = {place: Fraction(row[place][3], shares) for place in heads}
        later = [Fraction(piece[0]) for piece in row if piece[0] > moment]
        after = min(later + [moment + left[place] / rate for place, rate in rates.items()])
        if heads:
            stretches.append((moment, after, list(rates.items())))
        for place, rate in rates.items():
            left[place] -= rate * (after - moment)
        moment = after
    return stretches


def plain_spans(row, stretches):
    mine = [[stretch for stretch in stretches if place in dict(stretch[2])] for place in range(len(row))]
    return [(some[0][0], some[-1][1]) for some in mine]


def plain_flowed(row, stretches, who, at):
    return sum(
        rate * (min(end, at) - start)
        for start, end, parts in stretches for place, rate in parts
        if start < at and row[place][1] == who
    )


def some_rows():
    chance = Random(17)
    for count in range(120):
        greatest = chance.choice((1, 3, 9, 10 ** 6))
        gaps = chance.choice(((0,), (0, 1), (0, 0, 3, 8), (0, 40), (0, greatest, 5 * greatest)))
        at = chance.choice((0, 0, 3))
        row = []
        for place in range(chance.randrange(1, 16)):
            row.append((at, chance.randrange(4), chance.randrange(1, greatest + 1), chance.randrange(1, greatest + 1)))
            at += chance.choice(gaps)
        yield row


class ManyRows(FlowCase):
    def test_by_the_words_of_the_flowing_road(self):
        for row in some_rows():
            with self.subTest(row):
                wanted = plain_flow(row)
                self.assert_flow(row, wanted)
                self.assert_spans(row, plain_spans(row, wanted))
                for at in sorted({piece[0] for piece in row} | {0, 1, 7, 50, 10 ** 6, 10 ** 9}):
                    for who in range(5):
                        self.assertEqual(flowed(row, who, at), told(plain_flowed(row, wanted, who, at)))

    def test_rates_come_to_one_and_each_piece_flows_just_its_length(self):
        for row in some_rows():
            with self.subTest(row):
                flowing = [Fraction(0)] * len(row)
                before = Fraction(0)
                for start, end, parts in flow(row):
                    self.assertLessEqual(before, number(start))
                    self.assertLess(number(start), number(end))
                    before = number(end)
                    self.assertEqual(sum(number(rate) for place, rate in parts), 1)
                    for place, rate in parts:
                        flowing[place] += number(rate) * (number(end) - number(start))
                self.assertEqual(flowing, [piece[2] for piece in row])

    def test_a_piece_begins_at_its_coming_or_behind_the_one_ahead(self):
        for row in some_rows():
            with self.subTest(row):
                ends = {}
                for piece, span in zip(row, spans(row)):
                    begin = max(piece[0], ends.get(piece[1], 0))
                    self.assertEqual(number(span[0]), begin)
                    self.assertLessEqual(begin + piece[2], number(span[1]))
                    ends[piece[1]] = number(span[1])

    def test_sixty_pieces_of_great_shares(self):
        chance = Random(23)
        row = []
        at = 0
        for place in range(60):
            at += chance.randrange(10 ** 6)
            row.append((at, chance.randrange(12), chance.randrange(1, 10 ** 6), chance.randrange(1, 10 ** 6)))
        wanted = plain_flow(row)
        self.assert_flow(row, wanted)
        self.assert_spans(row, plain_spans(row, wanted))


def plain_mark(row, stretches, moment):
    return sum(
        (min(end, moment) - start) / sum(row[place][3] for place, rate in parts)
        for start, end, parts in stretches if start < moment
    )


class TheMark(FlowCase):
    """3.5 beside 3.1: the mark as it grows with the plain flow of what was told so far."""

    def test_the_tags_are_the_marks_at_begin_and_end(self):
        for row in some_rows():
            with self.subTest(row):
                stretches = plain_flow(row)
                tide = Tide()
                for piece, (begin, end) in zip(row, plain_spans(row, stretches)):
                    tags = tide.come(piece)
                    self.assertEqual(tags[0], told(plain_mark(row, stretches, begin)))
                    self.assertEqual(tags[1], told(plain_mark(row, stretches, end)))

    def test_the_marks_by_what_was_told_so_far(self):
        for row in some_rows():
            with self.subTest(row):
                tide = Tide()
                for count, piece in enumerate(row, start=1):
                    tide.come(piece)
                    stretches = plain_flow(row[:count])
                    for later in (0, 50, 1, 7, 10 ** 7, 3, 0):
                        at = piece[0] + later
                        self.assertEqual(tide.mark(at), told(plain_mark(row, stretches, at)))


if __name__ == "__main__":
    unittest.main()
