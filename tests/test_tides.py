import unittest
from fractions import Fraction
from math import gcd
from random import Random

from sharewheel.tides import Tide

ROW = [(0, 0, 4, 1), (0, 1, 4, 3), (0, 1, 4, 3)]


def number(one):
    return Fraction(one[0], one[1])


def told_row(row):
    tide = Tide()
    for piece in row:
        tide.come(piece)
    return tide


class TideCase(unittest.TestCase):
    def assert_fraction(self, one, wanted):
        self.assertIs(type(one), tuple)
        self.assertEqual([type(part) for part in one], [int, int])
        self.assertGreaterEqual(one[1], 1)
        self.assertEqual(gcd(one[0], one[1]), 1)
        self.assertEqual(number(one), wanted)

    def assert_tags(self, tags, begin, end):
        self.assertIs(type(tags), tuple)
        self.assertEqual(len(tags), 2)
        self.assert_fraction(tags[0], begin)
        self.assert_fraction(tags[1], end)

    def assert_marks(self, tide, marks):
        for at, wanted in marks:
            with self.subTest(at):
                self.assert_fraction(tide.mark(at), wanted)


class TheRow(TideCase):
    def test_the_tags(self):
        tide = Tide()
        self.assert_tags(tide.come(ROW[0]), 0, 4)
        self.assert_tags(tide.come(ROW[1]), 0, Fraction(4, 3))
        self.assert_tags(tide.come(ROW[2]), Fraction(4, 3), Fraction(8, 3))

    def test_the_marks(self):
        marks = [(0, 0), (1, Fraction(1, 4)), (4, 1), (5, Fraction(5, 4)), (6, Fraction(3, 2)), (10, Fraction(5, 2))]
        marks += [(11, 3), (12, 4), (13, 4), (10 ** 12, 4)]
        self.assert_marks(told_row(ROW), marks)

    def test_marks_asked_in_any_order_and_again(self):
        tide = told_row(ROW)
        self.assert_marks(tide, [(10 ** 12, 4), (4, 1), (12, 4), (0, 0), (11, 3), (4, 1), (0, 0), (10 ** 12, 4)])


class Marks(TideCase):
    def test_told_nothing(self):
        self.assert_marks(Tide(), [(0, 0), (1, 0), (10 ** 12, 0), (0, 0)])

    def test_asking_changes_no_tags(self):
        tide = Tide()
        tide.mark(100)
        self.assert_tags(tide.come((0, 0, 4, 1)), 0, 4)
        self.assert_marks(tide, [(100, 4), (2, 2)])
        self.assert_tags(tide.come((2, 1, 4, 3)), 2, Fraction(10, 3))
        self.assert_marks(tide, [(100, 4), (3, Fraction(9, 4)), (2, 2)])
        self.assert_tags(tide.come((2, 0, 4, 1)), 4, 8)

    def test_a_mark_asked_ahead_of_a_coming_is_by_what_was_told_so_far(self):
        tide = Tide()
        tide.come((0, 0, 10, 1))
        self.assert_marks(tide, [(4, 4), (6, 6)])
        tide.come((4, 1, 2, 1))
        self.assert_marks(tide, [(4, 4), (6, 5), (8, 6), (12, 10)])

    def test_heads_with_several_shares(self):
        tide = told_row([(0, 0, 6, 1), (0, 1, 6, 2), (0, 2, 6, 3)])
        marks = [(0, 0), (6, 1), (12, 2), (15, 3), (18, 6), (20, 6)]
        self.assert_marks(tide, marks)

    def test_a_share_of_another_piece_of_the_sender_counts_while_it_is_the_head(self):
        tide = told_row([(0, 0, 4, 2), (0, 0, 4, 4), (0, 1, 6, 2)])
        self.assert_marks(tide, [(4, 1), (8, 2), (11, Fraction(5, 2)), (14, 3), (15, 3)])

    def test_the_road_rests(self):
        tide = Tide()
        tide.come((5, 0, 4, 2))
        self.assert_marks(tide, [(5, 0), (7, 1), (9, 2), (10, 2), (100, 2)])
        self.assert_tags(tide.come((20, 0, 3, 1)), 2, 5)
        self.assert_marks(tide, [(20, 2), (21, 3), (23, 5), (24, 5)])
        self.assert_tags(tide.come((30, 1, 4, 4)), 5, 6)
        self.assert_marks(tide, [(30, 5), (34, 6), (35, 6)])

    def test_the_road_never_flowed_ahead_of_the_first_coming(self):
        tide = Tide()
        self.assert_marks(tide, [(1000, 0)])
        self.assert_tags(tide.come((1000, 3, 1, 1)), 0, 1)

    def test_what_is_told_is_new(self):
        tide = told_row(ROW)
        for at in (0, 4, 12, 100):
            self.assertIsNot(tide.mark(at), tide.mark(at))
        self.assertIsNot(Tide().mark(0), Tide().mark(0))

    def test_two_tides_are_apart(self):
        one = told_row(ROW)
        other = Tide()
        self.assert_marks(other, [(12, 0)])
        self.assert_tags(other.come((0, 1, 4, 3)), 0, Fraction(4, 3))
        self.assert_marks(one, [(12, 4)])


class Tags(TideCase):
    def test_behind_the_piece_ahead(self):
        tide = Tide()
        self.assert_tags(tide.come((0, 0, 10, 2)), 0, 5)
        self.assert_tags(tide.come((3, 0, 1, 3)), 5, Fraction(16, 3))
        self.assert_tags(tide.come((3, 0, 1, 1)), Fraction(16, 3), Fraction(19, 3))

    def test_when_the_piece_ahead_has_flowed_out(self):
        tide = Tide()
        self.assert_tags(tide.come((0, 0, 2, 1)), 0, 2)
        self.assert_tags(tide.come((0, 1, 9, 1)), 0, 9)
        self.assert_marks(tide, [(4, 2), (6, 4)])
        self.assert_tags(tide.come((6, 0, 3, 1)), 4, 7)

    def test_just_when_the_piece_ahead_has_flowed_out(self):
        tide = Tide()
        tide.come((0, 0, 2, 1))
        tide.come((0, 1, 9, 1))
        self.assert_tags(tide.come((4, 0, 3, 1)), 2, 5)

    def test_when_all_has_flowed_out(self):
        tide = told_row(ROW)
        self.assert_tags(tide.come((12, 1, 5, 2)), 4, Fraction(13, 2))
        tide = told_row(ROW)
        self.assert_tags(tide.come((50, 0, 5, 2)), 4, Fraction(13, 2))

    def test_another_sender_comes_while_pieces_flow(self):
        tide = told_row(ROW)
        self.assert_tags(tide.come((6, 2, 2, 4)), Fraction(3, 2), 2)
        self.assert_marks(tide, [(6, Fraction(3, 2)), (10, 2), (11, Fraction(9, 4))])

    def test_tags_in_lowest_terms(self):
        tide = Tide()
        self.assert_tags(tide.come((0, 0, 6, 4)), 0, Fraction(3, 2))
        self.assert_tags(tide.come((0, 0, 6, 4)), Fraction(3, 2), 3)

    def test_the_greatest_numbers(self):
        tide = Tide()
        self.assert_tags(tide.come((10 ** 12, 11, 10 ** 6, 1)), 0, 10 ** 6)
        self.assert_tags(tide.come((10 ** 12, 11, 1, 10 ** 6)), 10 ** 6, 10 ** 6 + Fraction(1, 10 ** 6))
        self.assert_marks(tide, [(10 ** 12, 0), (10 ** 12 + 7, 7), (10 ** 13, 10 ** 6 + Fraction(1, 10 ** 6))])

    def test_neither_hangs_on_what_comes_later(self):
        chance = Random(2)
        row = []
        at = 0
        for place in range(30):
            at += chance.choice((0, 0, 1, 4, 9))
            row.append((at, chance.randrange(5), chance.randrange(1, 9), chance.randrange(1, 6)))
        whole = Tide()
        tags = [whole.come(piece) for piece in row]
        for count in range(len(row)):
            tide = Tide()
            self.assertEqual([tide.come(piece) for piece in row[:count]], tags[:count])

    def test_what_is_told_is_new(self):
        tide = Tide()
        first = tide.come((0, 0, 4, 1))
        second = tide.come((0, 0, 4, 1))
        self.assertEqual(first[1], second[0])
        self.assertIsNot(first[1], second[0])


class NotLookedOver(TideCase):
    def test_what_lies_beyond_the_bounds_is_not_refused(self):
        tide = Tide()
        self.assert_tags(tide.come((10 ** 12 + 5, 12, 10 ** 6 + 2, 10 ** 6 + 1)), 0, Fraction(10 ** 6 + 2, 10 ** 6 + 1))
        self.assert_tags(tide.come((10 ** 12 + 5, 40, 3, 1)), 0, 3)

    def test_more_than_sixty_pieces(self):
        tide = told_row([(0, place % 12, 1, 1) for place in range(72)])
        self.assert_marks(tide, [(12, 1), (36, 3), (72, 6), (73, 6)])


if __name__ == "__main__":
    unittest.main()
