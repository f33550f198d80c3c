import unittest
from fractions import Fraction
from math import ceil, gcd
from random import Random

from sharewheel.errors import TooMuch, WheelError
from sharewheel.plans import piles, rooms_for, spread, waits

PLAN = [(1, (4, (0, 1))), (3, (3, (1, 2)))]
LATER = [(1, (1, (1, 2))), (3, (6, (0, 1)))]
BROKEN = [(1, (1, (1, 2))), (2, (3, (0, 1)))]


def told(one):
    one = Fraction(one)
    return (one.numerator, one.denominator)


def number(one):
    return Fraction(one[0], one[1])


def rate_of(sender):
    return number(sender[1][1])


class PlanCase(unittest.TestCase):
    def assert_fraction(self, one):
        self.assertIs(type(one), tuple)
        self.assertEqual([type(part) for part in one], [int, int])
        self.assertGreaterEqual(one[1], 1)
        self.assertEqual(gcd(one[0], one[1]), 1)

    def assert_fractions(self, answer, wanted):
        self.assertIs(type(answer), list)
        for one in answer:
            self.assert_fraction(one)
        self.assertEqual(answer, [told(one) for one in wanted])

    def assert_spread(self, senders, wanted):
        kept = list(senders)
        answer = spread(senders)
        self.assertIs(type(answer), list)
        self.assertEqual(len(answer), len(wanted))
        for stretch, (start, end, outs) in zip(answer, wanted):
            self.assertEqual((type(stretch), len(stretch)), (tuple, 3))
            self.assert_fraction(stretch[0])
            self.assert_fraction(stretch[1])
            self.assertEqual(stretch[:2], (told(start), told(end)))
            self.assert_fractions(stretch[2], outs)
        self.assertEqual(senders, kept)

    def assert_told(self, senders, wanted_piles, wanted_waits):
        kept = list(senders)
        self.assert_fractions(piles(senders), wanted_piles)
        self.assert_fractions(waits(senders), wanted_waits)
        self.assertEqual(senders, kept)

    def assert_rooms(self, senders, longest, wanted):
        kept = list(senders)
        answer = rooms_for(senders, longest)
        self.assertIs(type(answer), dict)
        self.assertEqual(list(answer.items()), list(wanted.items()))
        self.assertEqual([type(room) for room in answer.values()], [int] * len(wanted))
        self.assertEqual(senders, kept)


HALF = Fraction(1, 2)
THIRD = Fraction(1, 3)
QUARTER = Fraction(1, 4)


class ThePlan(PlanCase):
    def test_the_spread(self):
        self.assert_spread(PLAN, [(0, 12, [QUARTER, 3 * QUARTER]), (12, 14, [HALF, HALF])])

    def test_the_piles_and_the_waits(self):
        self.assert_told(PLAN, [4, 3], [14, 4])

    def test_the_rooms(self):
        self.assert_rooms(PLAN, 0, {0: 4, 1: 3})
        self.assert_rooms(PLAN, 5, {0: 9, 1: 8})


class Few(PlanCase):
    def test_no_senders(self):
        self.assert_spread([], [])
        self.assert_told([], [], [])
        self.assert_rooms([], 0, {})
        self.assert_rooms([], 10 ** 6, {})

    def test_one_alone(self):
        self.assert_spread([(7, (4, (0, 1)))], [(0, 4, [1])])
        self.assert_told([(7, (4, (0, 1)))], [4], [4])
        self.assert_spread([(7, (4, (1, 2)))], [(0, 8, [1])])
        self.assert_told([(7, (4, (1, 2)))], [4], [4])
        self.assert_rooms([(7, (4, (1, 2)))], 3, {0: 7})


class Several(PlanCase):
    def test_piles_that_become_empty_at_the_same_moment(self):
        self.assert_spread([(1, (3, (0, 1))), (1, (3, (0, 1)))], [(0, 6, [HALF, HALF])])
        senders = [(1, (2, (0, 1))), (2, (8, (0, 1))), (1, (2, (0, 1)))]
        self.assert_spread(senders, [(0, 8, [QUARTER, HALF, QUARTER]), (8, 12, [0, 1, 0])])
        self.assert_told(senders, [2, 8, 2], [8, 12, 8])

    def test_at_the_same_moment_by_different_rates(self):
        # Both fall to 0 at 6: the first by 1/2 - 1/3, the second by 1/2 in a tick.
        senders = [(1, (1, (1, 3))), (1, (3, (0, 1)))]
        self.assert_spread(senders, [(0, 6, [HALF, HALF])])
        self.assert_told(senders, [1, 3], [2, 6])

    def test_rates_of_nought(self):
        senders = [(1, (3, (0, 1))), (2, (3, (0, 1))), (3, (3, (0, 1)))]
        sixth = Fraction(1, 6)
        self.assert_spread(senders, [
            (0, 6, [sixth, 2 * sixth, 3 * sixth]), (6, Fraction(15, 2), [THIRD, 2 * THIRD, 0]),
            (Fraction(15, 2), 9, [1, 0, 0]),
        ])
        self.assert_told(senders, [3, 3, 3], [9, Fraction(15, 2), 6])

    def test_a_pile_that_grows_at_first(self):
        self.assert_spread(LATER, [(0, 8, [QUARTER, 3 * QUARTER]), (8, 14, [1, 0])])
        self.assertEqual(piles(LATER), [(3, 1), (6, 1)])

    def test_a_wait_that_is_greatest_at_a_later_moment(self):
        # What comes at 0 is out at 4, what comes at 2 at 8, and what comes at 4 at 9.
        self.assertEqual(waits(LATER), [(6, 1), (8, 1)])

    def test_a_pile_that_stands_still(self):
        # The first one gets just its rate while the second has a pile.
        senders = [(1, (2, (1, 4))), (3, (3, (0, 1)))]
        self.assert_spread(senders, [(0, 4, [QUARTER, 3 * QUARTER]), (4, Fraction(20, 3), [1, 0])])
        self.assert_told(senders, [2, 3], [5, 4])

    def test_a_pile_that_grows_over_two_stretches(self):
        # That of the first grows by 1/4, from 4 on by 1/6 in a tick, and falls from 13 on.
        senders = [(1, (1, (1, 2))), (1, (1, (0, 1))), (2, (8, (0, 1)))]
        self.assert_spread(senders, [
            (0, 4, [QUARTER, QUARTER, HALF]), (4, 13, [THIRD, 0, 2 * THIRD]), (13, 20, [1, 0, 0]),
        ])
        # What comes of the first at 6 is out at 13.
        self.assert_told(senders, [Fraction(7, 2), 1, 8], [7, 4, 13])

    def test_twelve_senders(self):
        senders = [(number + 1, (1 + number, (0, 1))) for number in range(12)]
        self.assert_spread(senders, [(0, 78, [Fraction(share, 78) for share in range(1, 13)])])
        self.assert_told(senders, range(1, 13), [78] * 12)

    def test_the_order_is_that_of_the_numbers(self):
        self.assert_spread(PLAN[::-1], [(0, 12, [3 * QUARTER, QUARTER]), (12, 14, [HALF, HALF])])
        self.assert_told(PLAN[::-1], [3, 4], [4, 14])
        self.assert_rooms(PLAN[::-1], 0, {0: 3, 1: 4})


class Rates(PlanCase):
    def assert_too_much(self, senders, asked):
        kept = list(senders)
        for ask in (spread, piles, waits, lambda some: rooms_for(some, 3)):
            with self.assertRaises(TooMuch) as caught:
                ask(senders)
            self.assertIsInstance(caught.exception, WheelError)
            self.assert_fraction(caught.exception.asked)
            self.assert_fraction(caught.exception.given)
            self.assertEqual(caught.exception.asked, told(asked))
            self.assertEqual(caught.exception.given, (1, 1))
        self.assertEqual(senders, kept)

    def test_that_come_to_one(self):
        self.assert_too_much([(1, (1, (1, 1)))], 1)
        self.assert_too_much([(1, (1, (1, 2))), (1, (1, (1, 2)))], 1)
        self.assert_too_much([(1, (1, (1, 2))), (5, (9, (1, 3))), (1, (1, (1, 6)))], 1)

    def test_that_come_to_more(self):
        self.assert_too_much([(1, (1, (3, 2)))], Fraction(3, 2))
        self.assert_too_much([(1, (1, (1, 2))), (1, (1, (2, 3)))], Fraction(7, 6))
        self.assert_too_much([(1, (1, (1, 10)))] * 12, Fraction(6, 5))
        great = 10 ** 39
        self.assert_too_much([(1, (1, (great + 1, great)))], 1 + Fraction(1, great))

    def test_that_come_to_a_little_less(self):
        bit = Fraction(1, 10 ** 12)
        senders = [(1, (1, (1, 2))), (1, (1, told(HALF - bit)))]
        self.assert_spread(senders, [
            (0, 10 ** 12, [HALF, HALF]), (10 ** 12, 2 * 10 ** 12, [HALF + bit, HALF - bit]),
        ])
        self.assert_told(senders, [1, 1], [2, 2])
        great = 10 ** 39
        self.assert_spread([(1, (1, (great - 1, great)))], [(0, great, [1])])
        self.assert_told([(1, (1, (great - 1, great)))], [1], [1])


class TheRooms(PlanCase):
    def test_the_least_whole_number_that_is_not_below(self):
        self.assert_told(BROKEN, [Fraction(7, 4), 3], [Fraction(7, 2), Fraction(9, 2)])
        self.assert_rooms(BROKEN, 0, {0: 2, 1: 3})
        self.assert_rooms(BROKEN, 1, {0: 3, 1: 4})
        self.assert_rooms(BROKEN, 10 ** 6, {0: 10 ** 6 + 2, 1: 10 ** 6 + 3})


class New(PlanCase):
    def test_what_is_told_is_the_askers_own(self):
        senders = list(PLAN)
        first = spread(senders)
        wanted = spread(senders)
        first[0][2].clear()
        first.clear()
        for told_list in (piles(senders), waits(senders)):
            told_list.append("more")
        rooms_for(senders, 1).clear()
        self.assertEqual(spread(senders), wanted)
        self.assertEqual((piles(senders), waits(senders)), ([(4, 1), (3, 1)], [(14, 1), (4, 1)]))
        self.assertEqual(rooms_for(senders, 1), {0: 5, 1: 4})

    def test_each_stretch_has_its_own_outs(self):
        answer = spread(PLAN)
        answer[0][2].clear()
        self.assertEqual(answer[1][2], [(1, 2), (1, 2)])

    def test_later_changes_of_the_senders_do_not_reach_it(self):
        senders = list(PLAN)
        answers = (spread(senders), piles(senders), waits(senders), rooms_for(senders, 2))
        senders.clear()
        self.assertEqual(answers, (spread(PLAN), piles(PLAN), waits(PLAN), rooms_for(PLAN, 2)))

    def test_tuples_are_new_each_time(self):
        self.assertIsNot(spread(PLAN)[1][2][1], PLAN[1][1][1])
        for ask in (piles, waits):
            self.assertIsNot(ask(PLAN)[0], ask(PLAN)[0])


class NotLookedOver(PlanCase):
    def test_what_lies_beyond_the_bounds_is_not_refused(self):
        self.assert_spread([(10 ** 6 + 1, (10 ** 12 + 1, (0, 1)))], [(0, 10 ** 12 + 1, [1])])
        self.assert_told([(10 ** 6 + 1, (10 ** 12 + 1, (0, 1)))], [10 ** 12 + 1], [10 ** 12 + 1])
        senders = [(1, (1, (0, 1)))] * 13
        self.assert_told(senders, [1] * 13, [13] * 13)

    def test_a_burst_of_nought(self):
        self.assert_spread([(1, (0, (1, 2)))], [])
        self.assert_told([(1, (0, (1, 2)))], [0], [0])
        self.assert_spread([(1, (0, (1, 2))), (1, (3, (0, 1)))], [(0, 6, [HALF, HALF])])
        self.assert_told([(1, (0, (1, 2))), (1, (3, (0, 1)))], [0, 3], [0, 6])


def some_plans():
    chance = Random(51)
    for turn in range(150):
        count = chance.randint(1, chance.choice((2, 4, 12)))
        weights = [chance.choice((0, 1, 1, 5, chance.randint(0, 1000))) for place in range(count)]
        bottom = sum(weights) + chance.choice((1, 1, 7, 2000))
        greatest = chance.choice((3, 20, 10 ** 6))
        yield [
            (chance.randint(1, greatest), (chance.randint(1, greatest), told(Fraction(weight, bottom))))
            for weight in weights
        ]


def heaps_of(senders, stretches):
    """The piles at time 0 and at the end of each stretch."""
    heaps = [[Fraction(sender[1][0]) for sender in senders]]
    for start, end, outs in stretches:
        time = number(end) - number(start)
        heaps.append([
            heap + (rate_of(sender) - number(out)) * time for heap, sender, out in zip(heaps[-1], senders, outs)
        ])
    return heaps


def course_of(stretches, place):
    """Of one sender: how much is gone at the begin of each stretch, the begin, and what flows out in a tick."""
    gone = Fraction(0)
    course = []
    for start, end, outs in stretches:
        course.append((gone, number(start), number(outs[place])))
        gone += number(outs[place]) * (number(end) - number(start))
    return course


def wait_at(sender, course, moment):
    """From a moment on, how long it takes till all that came up to it, and at it, has flowed out."""
    amount = sender[1][0] + rate_of(sender) * moment
    gone, start, out = [part for part in course if part[0] < amount][-1]
    return start + (amount - gone) / out - moment


class ManyPlans(PlanCase):
    def assert_outs(self, senders, heaps, outs):
        full = [place for place, heap in enumerate(heaps) if heap > 0]
        shares = sum(senders[place][0] for place in full)
        left = Fraction(1) - sum(rate_of(sender) for place, sender in enumerate(senders) if place not in full)
        for place, out in enumerate(outs):
            wanted = left * senders[place][0] / shares if place in full else rate_of(senders[place])
            self.assertEqual(number(out), wanted)

    def test_the_spread_by_the_words(self):
        for senders in some_plans():
            with self.subTest(senders):
                stretches = spread(senders)
                heaps = heaps_of(senders, stretches)
                self.assertEqual(stretches[0][0], (0, 1))
                for place, (start, end, outs) in enumerate(stretches):
                    self.assertLess(number(start), number(end))
                    if place > 0:
                        self.assertEqual(start, stretches[place - 1][1])
                    self.assert_outs(senders, heaps[place], outs)
                    self.assertGreaterEqual(min(heaps[place + 1]), 0)
                    emptied = [one > 0 and other == 0 for one, other in zip(heaps[place], heaps[place + 1])]
                    self.assertTrue(any(emptied))
                self.assertEqual(max(heaps[-1]), 0)

    def test_the_piles_by_the_spread(self):
        for senders in some_plans():
            with self.subTest(senders):
                heaps = heaps_of(senders, spread(senders))
                wanted = [max(column) for column in zip(*heaps)]
                self.assert_fractions(piles(senders), wanted)
                for longest in (0, 1, 7):
                    self.assert_rooms(senders, longest, {
                        place: ceil(pile + longest) for place, pile in enumerate(wanted)
                    })

    def test_the_waits_by_the_spread(self):
        for senders in some_plans():
            with self.subTest(senders):
                stretches = spread(senders)
                last = number(stretches[-1][1])
                for place, (sender, wait) in enumerate(zip(senders, waits(senders))):
                    self.assert_fraction(wait)
                    course = course_of(stretches, place)
                    moments = [last * part / 8 for part in range(8)] + [start for gone, start, out in course]
                    if rate_of(sender) > 0:
                        turns = [(gone - sender[1][0]) / rate_of(sender) for gone, start, out in course]
                        moments += [turn for turn in turns if turn >= 0]
                    self.assertEqual(number(wait), max(wait_at(sender, course, moment) for moment in moments))


if __name__ == "__main__":
    unittest.main()
