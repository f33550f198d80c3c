import unittest
from fractions import Fraction
from random import Random

from sharewheel.flows import spans
from sharewheel.pieces import longest
from sharewheel.wheels import dealt, piled, waited

ROW = [(0, 0, 4, 1), (0, 1, 4, 3), (0, 1, 4, 3)]


def number(one):
    return Fraction(one[0], one[1])


class WheelCase(unittest.TestCase):
    def assert_dealt(self, row, goings, dropped=(), rooms=None):
        kept = (list(row), None if rooms is None else dict(rooms))
        answer = dealt(row) if rooms is None else dealt(row, rooms)
        self.assertIs(type(answer), tuple)
        self.assertEqual([type(part) for part in answer], [list, list])
        self.assertEqual(answer, (list(goings), list(dropped)))
        for going in answer[0]:
            self.assertEqual((type(going), [type(part) for part in going]), (tuple, [int, int]))
        self.assertEqual([type(place) for place in answer[1]], [int] * len(answer[1]))
        self.assertEqual((row, rooms), kept)


class TheOrder(WheelCase):
    def test_the_row_of_the_flowing_road(self):
        self.assert_dealt(ROW, [(1, 0), (0, 4), (2, 8)])

    def test_a_row_without_pieces(self):
        self.assert_dealt([], [])
        self.assert_dealt([], [], rooms={0: 0})

    def test_one_piece(self):
        self.assert_dealt([(0, 3, 5, 7)], [(0, 0)])
        self.assert_dealt([(9, 3, 5, 7)], [(0, 9)])

    def test_the_least_end_tag(self):
        self.assert_dealt([(0, 0, 6, 1), (0, 1, 2, 1)], [(1, 0), (0, 2)])
        self.assert_dealt([(0, 0, 6, 6), (0, 1, 2, 1)], [(0, 0), (1, 6)])
        self.assert_dealt([(0, 0, 5, 2), (0, 1, 7, 3), (0, 2, 9, 4)], [(2, 0), (1, 9), (0, 16)])

    def test_of_equal_end_tags_the_least_place(self):
        self.assert_dealt([(0, 2, 2, 1), (0, 1, 2, 1), (0, 0, 2, 1)], [(0, 0), (1, 2), (2, 4)])
        self.assert_dealt([(0, 2, 6, 3), (0, 1, 2, 1), (0, 0, 4, 2)], [(0, 0), (1, 6), (2, 8)])
        self.assert_dealt([(0, 2, 2, 1), (0, 1, 4, 2), (0, 0, 6, 3)], [(0, 0), (1, 2), (2, 6)])

    def test_of_one_sender_in_their_order(self):
        self.assert_dealt([(0, 3, 5, 1), (0, 3, 1, 9), (1, 3, 2, 5)], [(0, 0), (1, 5), (2, 6)])

    def test_a_begin_tag_above_the_mark_waits_though_its_end_tag_is_less(self):
        # Of the tags (0, 9), (0, 1) and (1, 2) the last may not begin at 1, where the mark is 1/2.
        self.assert_dealt([(0, 0, 9, 1), (0, 1, 1, 1), (0, 1, 1, 1)], [(1, 0), (0, 1), (2, 10)])

    def test_a_begin_tag_just_at_the_mark_may_begin(self):
        # The tags are (0, 1), (1, 2) and (1, 10); at 1 the mark is 1.
        row = [(0, 1, 1, 1), (0, 1, 1, 1), (1, 0, 9, 1)]
        self.assert_dealt(row, [(0, 0), (1, 1), (2, 2)])
        self.assert_dealt([(0, 0, 2, 1), (0, 0, 2, 1)], [(0, 0), (1, 2)])

    def test_long_waiting_goes_at_last(self):
        row = [(0, 0, 2, 1)] + [(0, 1, 2, 3)] * 4
        self.assert_dealt(row, [(1, 0), (0, 2), (2, 4), (3, 6), (4, 8)])


class TheTimes(WheelCase):
    def test_several_come_at_once_behind_each_other(self):
        row = [(0, 0, 3, 1), (1, 1, 2, 1), (1, 2, 1, 1), (1, 0, 1, 1)]
        # Tags (0, 3), (1, 3), (1, 2), (3, 4); at 3 the mark is 5/3.
        self.assert_dealt(row, [(0, 0), (2, 3), (1, 4), (3, 6)])

    def test_a_coming_at_the_time_at_which_the_road_becomes_free(self):
        # The tags are (0, 4), (1, 7) and, at 4, where the mark is 5/2, (5/2, 7/2).
        self.assert_dealt([(0, 0, 4, 1), (1, 1, 6, 1), (4, 2, 1, 1)], [(0, 0), (2, 4), (1, 5)])

    def test_a_coming_one_tick_too_late(self):
        self.assert_dealt([(0, 0, 4, 1), (1, 1, 6, 1), (5, 2, 1, 1)], [(0, 0), (1, 4), (2, 10)])

    def test_a_coming_at_the_same_time_is_chosen_ahead(self):
        self.assert_dealt([(3, 0, 4, 1), (3, 1, 1, 1)], [(1, 3), (0, 4)])
        self.assert_dealt([(3, 0, 4, 1), (4, 1, 1, 1)], [(0, 3), (1, 7)])

    def test_rests_between(self):
        self.assert_dealt([(1, 0, 2, 1), (5, 0, 1, 1), (6, 1, 1, 1)], [(0, 1), (1, 5), (2, 6)])
        row = [(0, 0, 2, 1), (0, 1, 2, 3), (50, 0, 2, 1), (50, 1, 9, 3), (10 ** 12, 0, 1, 1)]
        self.assert_dealt(row, [(1, 0), (0, 2), (2, 50), (3, 52), (4, 10 ** 12)])

    def test_the_last_moment_of_a_rest(self):
        self.assert_dealt([(0, 0, 2, 1), (2, 0, 2, 1), (5, 0, 2, 1)], [(0, 0), (1, 2), (2, 5)])

    def test_the_greatest_numbers(self):
        row = [(10 ** 12, 11, 10 ** 6, 1), (10 ** 12, 10, 10 ** 6, 10 ** 6), (10 ** 12, 9, 1, 1)]
        self.assert_dealt(row, [(1, 10 ** 12), (2, 10 ** 12 + 10 ** 6), (0, 10 ** 12 + 10 ** 6 + 1)])


class Rooms(WheelCase):
    def test_without_rooms_nothing_is_dropped(self):
        row = [(0, 0, 10 ** 6, 1)] * 60
        goings = [(place, place * 10 ** 6) for place in range(60)]
        self.assert_dealt(row, goings)
        self.assert_dealt(row, goings, rooms={})
        self.assertEqual(dealt(row, None), (goings, []))
        self.assertEqual(dealt(row, rooms=None), (goings, []))

    def test_a_room_of_nought(self):
        row = [(0, 0, 1, 1), (0, 1, 2, 1), (0, 0, 3, 1), (9, 0, 1, 1)]
        self.assert_dealt(row, [(1, 0)], [0, 2, 3], rooms={0: 0})
        self.assert_dealt(row[:1], [], [0], rooms={0: 0})

    def test_just_enough_and_one_too_small(self):
        row = [(0, 0, 3, 1), (0, 0, 4, 1)]
        self.assert_dealt(row, [(0, 0), (1, 3)], [], rooms={0: 7})
        self.assert_dealt(row, [(0, 0)], [1], rooms={0: 6})
        self.assert_dealt(row, [(0, 0)], [1], rooms={0: 3})
        self.assert_dealt(row, [], [0, 1], rooms={0: 2})

    def test_a_lesser_one_may_be_taken_in_behind_a_dropped_one(self):
        row = [(0, 0, 3, 1), (0, 0, 4, 1), (0, 0, 2, 1), (0, 0, 1, 1)]
        self.assert_dealt(row, [(0, 0), (2, 3)], [1, 3], rooms={0: 5})
        self.assert_dealt([(0, 0, 9, 1), (0, 0, 2, 1)], [(1, 0)], [0], rooms={0: 5})

    def test_a_sender_without_a_room(self):
        row = [(0, 1, 9, 1), (0, 0, 2, 1), (0, 1, 9, 1), (0, 0, 2, 1)]
        self.assert_dealt(row, [(1, 0), (0, 2), (2, 11)], [3], rooms={0: 3})
        self.assert_dealt(row, [(1, 0), (0, 2), (3, 11), (2, 13)], [], rooms={2: 0, 11: 1})

    def test_only_the_senders_own_waiting_pieces_count(self):
        row = [(0, 1, 9, 1), (0, 0, 3, 1), (0, 2, 9, 1)]
        self.assert_dealt(row, [(1, 0), (0, 3), (2, 12)], [], rooms={0: 3, 1: 9, 2: 9})

    def test_what_has_begun_waits_no_longer(self):
        self.assert_dealt([(0, 0, 3, 1), (0, 0, 3, 1)], [(0, 0)], [1], rooms={0: 3})
        self.assert_dealt([(0, 0, 3, 1), (1, 0, 3, 1)], [(0, 0), (1, 3)], [], rooms={0: 3})
        row = [(0, 0, 3, 1), (1, 0, 3, 1), (2, 0, 3, 1), (3, 0, 3, 1), (4, 0, 3, 1)]
        self.assert_dealt(row, [(0, 0), (1, 3), (4, 6)], [2, 3], rooms={0: 3})

    def test_what_begins_just_then_still_waits(self):
        row = [(0, 1, 2, 1), (0, 0, 3, 1), (2, 0, 3, 1)]
        self.assert_dealt(row, [(0, 0), (1, 2)], [2], rooms={0: 3})
        row[2] = (3, 0, 3, 1)
        self.assert_dealt(row, [(0, 0), (1, 2), (2, 5)], [], rooms={0: 3})

    def test_what_is_dropped_changes_no_tag(self):
        # The piece of place 1 would have set the next one of its sender behind that of sender 1.
        row = [(0, 0, 2, 1), (0, 0, 4, 1), (0, 0, 1, 1), (0, 1, 4, 1)]
        self.assert_dealt(row, [(0, 0), (3, 2), (2, 6)], [1], rooms={0: 5})
        self.assert_dealt([row[0], row[2], row[3]], [(0, 0), (2, 2), (1, 6)])
        row = [(0, 0, 9, 1), (0, 0, 1, 1), (0, 1, 4, 1)]
        self.assert_dealt(row, [(1, 0), (2, 1)], [0], rooms={0: 8})
        self.assert_dealt(row, [(2, 0), (0, 4), (1, 13)])

    def test_what_is_dropped_changes_no_mark(self):
        # With the dropped share 9 the mark at 2 would be 1/5, below the begin tag 2 of place 2.
        row = [(0, 0, 2, 1), (0, 2, 90, 9), (0, 0, 1, 1), (2, 1, 9, 1)]
        self.assert_dealt(row, [(0, 0), (2, 2), (3, 3)], [1], rooms={2: 89})
        self.assert_dealt(row, [(0, 0), (3, 2), (1, 11), (2, 101)], rooms={2: 90})


class New(WheelCase):
    def test_what_is_told_is_the_askers_own(self):
        row = list(ROW)
        rooms = {0: 3}
        first = dealt(row, rooms)
        self.assertEqual(first, ([(1, 0), (2, 4)], [0]))
        first[0].clear()
        first[1].append(7)
        self.assertEqual(dealt(row, rooms), ([(1, 0), (2, 4)], [0]))
        second = dealt(row, rooms)
        row.clear()
        rooms.clear()
        self.assertEqual(second, ([(1, 0), (2, 4)], [0]))

    def test_waits_are_the_askers_own(self):
        goings = [(1, 0)]
        first = waited(ROW, goings)
        first.append("more")
        goings.append((0, 4))
        self.assertEqual(waited(ROW, goings), [(1, 4), (0, 8)])


class NotLookedOver(WheelCase):
    def test_what_lies_beyond_the_bounds_is_not_refused(self):
        row = [(10 ** 12 + 5, 12, 10 ** 6 + 2, 10 ** 6 + 1), (10 ** 12 + 5, 40, 1, 10 ** 6 + 9)]
        self.assert_dealt(row, [(1, 10 ** 12 + 5), (0, 10 ** 12 + 6)])

    def test_more_than_sixty_pieces(self):
        row = [(0, place % 12, 1, 1) for place in range(72)]
        self.assert_dealt(row, [(place, place) for place in range(72)])

    def test_a_piece_without_length(self):
        self.assert_dealt([(1, 0, 0, 1), (1, 0, 2, 1), (1, 1, 0, 1)], [(0, 1), (2, 1), (1, 1)])


class Waited(WheelCase):
    def assert_waited(self, row, goings, wanted):
        kept = (list(row), list(goings))
        answer = waited(row, goings)
        self.assertIs(type(answer), list)
        self.assertEqual(answer, wanted)
        for one in answer:
            self.assertEqual((type(one), [type(part) for part in one]), (tuple, [int, int]))
        self.assertEqual((row, goings), kept)

    def test_by_the_goings_of_the_wheel(self):
        self.assert_waited(ROW, dealt(ROW)[0], [(1, 4), (0, 8), (2, 12)])

    def test_from_the_coming_to_the_end(self):
        row = [(3, 0, 5, 1), (4, 1, 2, 1), (9, 0, 1, 1)]
        self.assert_waited(row, [(0, 3), (1, 8), (2, 10)], [(0, 5), (1, 6), (2, 2)])

    def test_by_other_goings(self):
        row = [(3, 0, 5, 1), (4, 1, 2, 1), (9, 0, 1, 1)]
        self.assert_waited(row, [], [])
        self.assert_waited(row, [(2, 9)], [(2, 1)])
        self.assert_waited(row, [(2, 100), (0, 7), (1, 7)], [(2, 92), (0, 9), (1, 5)])


class Piled(WheelCase):
    def assert_piled(self, row, goings, who, wanted):
        kept = (list(row), list(goings))
        for at, pile in wanted:
            with self.subTest(who=who, at=at):
                answer = piled(row, goings, who, at)
                self.assertIs(type(answer), int)
                self.assertEqual(answer, pile)
        self.assertEqual((row, goings), kept)

    def test_by_the_goings_of_the_wheel(self):
        goings = dealt(ROW)[0]
        self.assert_piled(ROW, goings, 0, [(0, 4), (3, 4), (4, 4), (5, 3), (7, 1), (8, 0), (9, 0)])
        self.assert_piled(ROW, goings, 1, [(0, 8), (1, 7), (4, 4), (8, 4), (9, 3), (11, 1), (12, 0), (10 ** 12, 0)])

    def test_ahead_of_the_coming_at_it_and_behind_it(self):
        row = [(2, 0, 3, 1)]
        self.assert_piled(row, [(0, 5)], 0, [(0, 0), (1, 0), (2, 3), (4, 3), (5, 3), (6, 2), (7, 1), (8, 0), (9, 0)])

    def test_begins_at_its_coming(self):
        self.assert_piled([(2, 0, 3, 1)], [(0, 2)], 0, [(1, 0), (2, 3), (3, 2), (5, 0)])

    def test_a_sender_without_pieces(self):
        self.assert_piled(ROW, dealt(ROW)[0], 2, [(0, 0), (4, 0), (100, 0)])
        self.assert_piled([], [], 0, [(0, 0), (9, 0)])

    def test_only_what_is_in_the_goings(self):
        self.assert_piled(ROW, [(2, 3)], 1, [(0, 4), (3, 4), (4, 3), (7, 0)])
        self.assert_piled(ROW, [(2, 3)], 0, [(0, 0), (3, 0)])
        self.assert_piled(ROW, [], 1, [(0, 0), (3, 0)])

    def test_goings_that_lie_over_one_another(self):
        row = [(0, 0, 4, 1), (0, 0, 4, 1), (1, 0, 2, 1)]
        self.assert_piled(row, [(2, 1), (1, 0), (0, 2)], 0, [(0, 8), (1, 9), (2, 7), (3, 4), (4, 2), (5, 1), (6, 0)])


class PlainTide:
    """3.5 by the words of 3.1: what is left of each sender's pieces, from moment to moment."""

    def __init__(self):
        self.moment = Fraction(0)
        self.mark = Fraction(0)
        self.lines = {}
        self.ends = {}

    def bring(self, at):
        while self.moment < at:
            heads = [line[0] for line in self.lines.values() if line]
            if not heads:
                self.moment = Fraction(at)
                return self.mark
            shares = sum(share for left, share in heads)
            time = min([at - self.moment] + [left * shares / share for left, share in heads])
            for head in heads:
                head[0] -= time * head[1] / shares
            self.lines = {who: [one for one in line if one[0] > 0] for who, line in self.lines.items()}
            self.mark += time / shares
            self.moment += time
        return self.mark

    def come(self, piece):
        at, who, length, share = piece
        begin = max(self.bring(at), self.ends.get(who, 0))
        self.ends[who] = begin + Fraction(length, share)
        self.lines.setdefault(who, []).append([Fraction(length), share])
        return (begin, self.ends[who])


def plain_dealt(row, rooms):
    """Stage 4 tick by tick."""
    tide = PlainTide()
    waiting = {}
    goings = []
    dropped = []
    free = 0
    tick = 0
    while len(goings) + len(dropped) < len(row):
        for place, piece in enumerate(row):
            if piece[0] == tick:
                pile = sum(row[one][2] for one in waiting if row[one][1] == piece[1])
                if pile + piece[2] > rooms.get(piece[1], pile + piece[2]):
                    dropped.append(place)
                else:
                    waiting[place] = tide.come(piece)
        mark = tide.bring(tick)
        if tick >= free and waiting:
            end, place = min((end, place) for place, (begin, end) in waiting.items() if begin <= mark)
            waiting.pop(place)
            goings.append((place, tick))
            free = tick + row[place][2]
        tick += 1
    return (goings, dropped)


def some_row(chance, count, senders, greatest, gaps):
    at = chance.choice((0, 0, 3))
    row = []
    for place in range(count):
        row.append((at, chance.randrange(senders), chance.randint(1, greatest), chance.randint(1, greatest)))
        at += chance.choice(gaps)
    return row


def small_rows(seed, count):
    chance = Random(seed)
    for turn in range(count):
        greatest = chance.choice((1, 3, 9))
        gaps = chance.choice(((0,), (0, 1), (0, 0, 3, 8), (0, 30), (1, 2, greatest)))
        row = some_row(chance, chance.randint(1, 16), chance.randint(1, 5), greatest, gaps)
        rooms = {who: chance.randint(0, 3 * greatest) for who in range(5) if chance.random() < 0.6}
        yield (row, rooms)


def great_rows():
    chance = Random(41)
    for turn in range(12):
        greatest = chance.choice((10, 1000, 10 ** 6))
        gaps = chance.choice(((0, 0, greatest), (greatest // 2,), (0, 1, greatest // 3, 3 * greatest)))
        yield some_row(chance, 60, chance.randint(2, 12), greatest, gaps)


class ManyRows(WheelCase):
    def test_by_the_words_tick_by_tick(self):
        for row, rooms in small_rows(31, 300):
            with self.subTest(row=row, rooms=rooms):
                self.assertEqual(dealt(row), plain_dealt(row, {}))
                self.assertEqual(dealt(row, rooms), plain_dealt(row, rooms))

    def test_what_is_dropped_might_as_well_not_have_come(self):
        for row, rooms in small_rows(32, 300):
            with self.subTest(row=row, rooms=rooms):
                goings, dropped = dealt(row, rooms)
                staying = [place for place in range(len(row)) if place not in dropped]
                alone = dealt([row[place] for place in staying])
                self.assertEqual(goings, [(staying[place], start) for place, start in alone[0]])
                self.assertEqual(dropped, sorted(set(dropped)))
                self.assertEqual(sorted([place for place, start in goings] + dropped), list(range(len(row))))

    def test_piles_and_waits_by_the_words(self):
        for row, rooms in small_rows(33, 60):
            goings = dealt(row, rooms)[0]
            starts = dict(goings)
            self.assertEqual(waited(row, goings), [
                (place, starts[place] + row[place][2] - row[place][0]) for place in starts
            ])
            for at in range(0, 60, 3):
                for who in range(5):
                    ticks = [
                        tick for place, start in goings for tick in range(start, start + row[place][2])
                        if row[place][1] == who and row[place][0] <= at <= tick
                    ]
                    self.assertEqual(piled(row, goings, who, at), len(ticks))


class TheRoad(WheelCase):
    """0.3 of the flat road: what holds of any row, on the wheel beside the flowing road."""

    def assert_held(self, row):
        goings, dropped = dealt(row)
        self.assertEqual(dropped, [])
        self.assertEqual(sorted(place for place, start in goings), list(range(len(row))))
        flowing = spans(row)
        free = 0
        gone = set()
        for place, start in goings:
            at, who, length, share = row[place]
            self.assertGreaterEqual(start, max(at, free))
            waiting = [piece[0] for one, piece in enumerate(row) if one not in gone]
            self.assertEqual(start, max(free, min(waiting)))
            self.assertLessEqual(number(flowing[place][0]), start)
            self.assertLessEqual(start + length, number(flowing[place][1]) + longest(row))
            free = start + length
            gone.add(place)

    def test_small_rows(self):
        for row, rooms in small_rows(34, 300):
            with self.subTest(row):
                self.assert_held(row)
                dropped = dealt(row, rooms)[1]
                self.assert_held([piece for place, piece in enumerate(row) if place not in dropped])

    def test_great_rows(self):
        for row in great_rows():
            with self.subTest(row):
                self.assert_held(row)


if __name__ == "__main__":
    unittest.main()
