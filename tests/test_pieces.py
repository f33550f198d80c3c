import unittest

from sharewheel.errors import BadRow
from sharewheel.pieces import came, checked, longest, of_sender

LATEST = 10 ** 12
GREATEST = 10 ** 6


class CheckedCase(unittest.TestCase):
    def assert_good(self, row):
        kept = list(row)
        answer = checked(row)
        self.assertIs(type(answer), list)
        self.assertEqual(answer, kept)
        self.assertIsNot(answer, row)
        self.assertEqual(row, kept)

    def assert_bad(self, row, place):
        kept = list(row)
        with self.assertRaises(BadRow) as taken:
            checked(row)
        self.assertEqual(taken.exception.place, place)
        self.assertEqual(row, kept)


class Ranges(CheckedCase):
    def test_edges(self):
        for piece in (
            (0, 3, 5, 2), (LATEST, 3, 5, 2), (4, 0, 5, 2), (4, 11, 5, 2),
            (4, 3, 1, 2), (4, 3, GREATEST, 2), (4, 3, 5, 1), (4, 3, 5, GREATEST),
            (0, 0, 1, 1), (LATEST, 11, GREATEST, GREATEST),
        ):
            with self.subTest(piece):
                self.assert_good([piece])

    def test_one_beyond_each_edge(self):
        for piece in (
            (-1, 3, 5, 2), (LATEST + 1, 3, 5, 2), (4, -1, 5, 2), (4, 12, 5, 2),
            (4, 3, 0, 2), (4, 3, GREATEST + 1, 2), (4, 3, 5, 0), (4, 3, 5, GREATEST + 1),
        ):
            with self.subTest(piece):
                self.assert_bad([piece], 0)
                self.assert_bad([(0, 3, 5, 2), piece, (LATEST, 3, 5, 2)], 1)

    def test_far_beyond_each_edge(self):
        for number in (-10 ** 50, 10 ** 50):
            for field in range(4):
                piece = [4, 3, 5, 2]
                piece[field] = number
                with self.subTest(piece):
                    self.assert_bad([tuple(piece)], 0)


class Order(CheckedCase):
    def test_at_the_same_time(self):
        self.assert_good([(0, 0, 4, 1), (0, 1, 4, 3), (0, 1, 4, 3)])

    def test_rising(self):
        self.assert_good([(0, 0, 4, 1), (1, 1, 4, 3), (LATEST, 1, 4, 3)])

    def test_earlier_than_the_one_just_ahead(self):
        self.assert_bad([(5, 0, 4, 1), (4, 1, 4, 3)], 1)
        self.assert_bad([(5, 0, 4, 1), (5, 0, 4, 1), (7, 0, 4, 1), (6, 1, 4, 3)], 3)

    def test_the_one_ahead_is_of_any_sender(self):
        self.assert_bad([(5, 0, 4, 1), (9, 1, 4, 1), (6, 0, 4, 1)], 2)


class Counts(CheckedCase):
    def row_of(self, count):
        return [(number, number % 12, number + 1, 1) for number in range(count)]

    def test_none(self):
        self.assert_good([])
        self.assertIsNot(checked([]), checked([]))

    def test_sixty(self):
        self.assert_good(self.row_of(59))
        self.assert_good(self.row_of(60))

    def test_too_many(self):
        for count in (61, 62, 100, 1000):
            with self.subTest(count):
                self.assert_bad(self.row_of(count), 60)

    def test_the_sixty_first_is_bad_whatever_it_is(self):
        self.assert_bad(self.row_of(60) + [(-1, -1, 0, 0)], 60)
        self.assert_bad(self.row_of(61) + [(-1, -1, 0, 0)], 60)

    def test_a_bad_one_ahead_of_place_sixty_in_a_long_row(self):
        for place in (0, 1, 58, 59):
            row = self.row_of(70)
            row[place] = (row[place][0], 12, 1, 1)
            with self.subTest(place):
                self.assert_bad(row, place)

    def test_an_early_one_ahead_of_place_sixty_in_a_long_row(self):
        row = self.row_of(61)
        row[59] = (57, 0, 1, 1)
        self.assert_bad(row, 59)


class SeveralBad(CheckedCase):
    def test_the_least_place_is_told(self):
        good = (4, 3, 5, 2)
        long = (4, 3, GREATEST + 1, 2)
        early = (3, 3, 5, 2)
        stranger = (4, 12, 5, 2)
        self.assert_bad([good, long, early], 1)
        self.assert_bad([good, early, long], 1)
        self.assert_bad([good, good, stranger, early, long], 2)
        self.assert_bad([stranger, good, early], 0)


class New(CheckedCase):
    def test_what_is_told_is_the_askers_own(self):
        row = [(0, 0, 4, 1), (0, 1, 4, 3)]
        answer = checked(row)
        answer.append("more")
        answer[0] = "other"
        self.assertEqual(row, [(0, 0, 4, 1), (0, 1, 4, 3)])
        self.assertEqual(checked(row), [(0, 0, 4, 1), (0, 1, 4, 3)])

    def test_later_changes_of_the_row_do_not_reach_it(self):
        row = [(0, 0, 4, 1), (0, 1, 4, 3)]
        answer = checked(row)
        row.clear()
        self.assertEqual(answer, [(0, 0, 4, 1), (0, 1, 4, 3)])

    def test_the_pieces_told_are_new_tuples(self):
        row = [(0, 0, 4, 1)]
        answer = checked(row)
        self.assertIs(type(answer[0]), tuple)
        self.assertIsNot(answer[0], row[0])


ROW = [(0, 2, 4, 1), (0, 0, 7, 3), (3, 2, 9, 1), (5, 11, 1, 1), (8, 2, 2, 5), (8, 2, 3, 5)]


class Told(unittest.TestCase):
    def setUp(self):
        self.row = list(ROW)

    def tearDown(self):
        self.assertEqual(self.row, ROW)

    def test_places_of_a_sender(self):
        self.assertEqual(of_sender(self.row, 2), [0, 2, 4, 5])
        self.assertEqual(of_sender(self.row, 0), [1])
        self.assertEqual(of_sender(self.row, 11), [3])

    def test_places_of_who_has_none(self):
        self.assertEqual(of_sender(self.row, 1), [])
        self.assertEqual(of_sender([], 0), [])

    def test_places_are_a_new_list(self):
        of_sender(self.row, 2).append(9)
        self.assertEqual(of_sender(self.row, 2), [0, 2, 4, 5])

    def test_longest(self):
        self.assertEqual(longest(self.row), 9)
        self.assertEqual(longest(self.row[:1]), 4)
        self.assertEqual(longest([(0, 0, 1, GREATEST)]), 1)

    def test_longest_of_none(self):
        self.assertEqual(longest([]), 0)

    def test_came_between(self):
        self.assertEqual(came(self.row, 2, 0, 8), 18)
        self.assertEqual(came(self.row, 2, 1, 7), 9)
        self.assertEqual(came(self.row, 0, 0, 8), 7)

    def test_came_at_both_ends(self):
        self.assertEqual(came(self.row, 2, 0, 3), 13)
        self.assertEqual(came(self.row, 2, 3, 8), 14)
        self.assertEqual(came(self.row, 2, 8, 8), 5)
        self.assertEqual(came(self.row, 2, 1, 2), 0)
        self.assertEqual(came(self.row, 2, 4, 7), 0)

    def test_came_of_none(self):
        self.assertEqual(came(self.row, 2, 9, 100), 0)
        self.assertEqual(came(self.row, 1, 0, 100), 0)
        self.assertEqual(came([], 0, 0, 100), 0)

    def test_came_with_the_first_time_above_the_second(self):
        self.assertEqual(came(self.row, 2, 8, 0), 0)
        self.assertEqual(came(self.row, 2, 4, 3), 0)
        self.assertEqual(came(self.row, 2, 3, 2), 0)


class NotLookedOver(unittest.TestCase):
    def test_only_checked_looks_a_row_over(self):
        row = [(5, 12, GREATEST + 1, 0), (4, 12, 3, 1)] * 40
        self.assertEqual(len(of_sender(row, 12)), 80)
        self.assertEqual(longest(row), GREATEST + 1)
        self.assertEqual(came(row, 12, 4, 4), 120)


if __name__ == "__main__":
    unittest.main()
