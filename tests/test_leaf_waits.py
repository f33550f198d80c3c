"""Seeded trees against 8.4: a leaf whose comings keep a line, among others that are always full."""

import unittest
from fractions import Fraction
from random import Random

from sharewheel.floors import floor, greatest_pile, longest_wait
from sharewheel.lines import keeps
from sharewheel.ratios import whole_above
from sharewheel.trees import Tree


def number(one):
    return Fraction(one[0], one[1])


class Run:
    """A leaf `own` at the end of a way, at each class on it other leaves, and inner classes with leaves beside it."""

    def __init__(self, seed, room=None):
        self.chance = Random(seed)
        self.most = self.chance.choice((1, 3, 6, 10))
        self.room = room
        self.tree = Tree(self.most, self.some_kind())
        self.way = []
        self.beside = []
        self.full = []
        self.named = 0
        self.comings = []
        self.numbers = {}
        self.piles = []
        self.dropped = 0
        self.tokens = Fraction(0)
        self.build()

    def some_kind(self):
        return self.chance.choice(("starts", "rounds"))

    def some_share(self, great=False):
        return self.chance.choice((2, 3, 7) if great else (1, 1, 2, 3))

    def put(self, under, kind, great=False):
        name = "n" + chr(ord("a") + self.named // 26) + chr(ord("a") + self.named % 26)
        self.named += 1
        self.tree.put(name, under, kind, self.some_share(great))
        if kind == "leaf":
            self.full.append(name)
        return name

    def build(self):
        under = "road"
        depth = self.chance.randint(1, 5)
        for level in range(1, depth + 1):
            first = self.chance.random() < 0.5
            if first:
                self.put_beside(under, level)
            if level == depth:
                self.tree.put("own", under, "leaf", self.some_share(True), self.room)
            else:
                self.way.append(self.put(under, self.some_kind(), True))
            if not first or self.chance.random() < 0.2:
                self.put_beside(under, level)
            under = self.way[-1] if self.way else under

    def put_beside(self, under, level):
        if level == 5 or self.chance.random() < 0.5:
            self.put(under, "leaf")
        else:
            self.beside.append(self.put(under, self.some_kind()))
            self.put(self.beside[-1], "leaf")

    def fill(self):
        for name in self.full:
            while len(self.tree.waiting(name)) < 2:
                self.tree.come(name, self.chance.choice((self.most, self.most, self.chance.randint(1, self.most))))

    def change_anything(self):
        """What is done ahead of the first piece and of the asking: steps by lesser shares, other classes."""
        deed = self.chance.random()
        if deed < 0.5:
            self.tree.reshare(self.chance.choice(self.full), self.some_share())
        elif deed < 0.8:
            self.tree.reshare(self.chance.choice(self.way + ["own"]), self.some_share(True))
        elif self.way:
            self.tree.curb(self.chance.choice(self.way), self.most, (1, 2))

    def change_beside(self):
        """What may be done at any time: changes within the classes beside the way, and curbs beside it."""
        deed = self.chance.random()
        if deed < 0.3 and self.beside:
            inner = self.chance.choice(self.beside)
            children = self.tree.below(inner)
            if children and self.chance.random() < 0.5:
                name = self.chance.choice(children)
                self.tree.take(name)
                self.full.remove(name)
            elif self.named < 30:
                self.put(inner, "leaf")
        elif deed < 0.6 and self.full + self.beside:
            name = self.chance.choice(self.full + self.beside)
            if self.chance.random() < 0.5:
                self.tree.curb(name, self.most, (1, 3))
            else:
                self.tree.uncurb(name)

    def tick(self):
        self.fill()
        self.piles.append(sum(self.comings[self.numbers[which]][1] for which in self.tree.waiting("own")))
        self.tree.until(self.tree.now() + 1)

    def come(self, line):
        """As much as the line lets come, or less: its tokens are burst and rate times the time, less what came."""
        burst, rate = line
        self.tokens = min(Fraction(burst), self.tokens + number(rate))
        greedy = self.chance.choice((0.0, 0.8, 1.0))
        while self.tokens >= 1 and self.chance.random() < greedy:
            length = min(self.chance.randint(1, self.most), int(self.tokens))
            self.tokens -= length
            which = self.tree.come("own", length)
            if which is None:
                self.dropped += 1
            else:
                self.numbers[which] = len(self.comings)
                self.comings.append((self.tree.now(), length))

    def ask(self, line):
        return longest_wait(self.tree, "own", line), greatest_pile(self.tree, "own", line)

    def go(self):
        for time in range(self.chance.choice((0, 0, 10, 20))):
            self.fill()
            self.change_anything()
            self.tree.until(self.tree.now() + self.most)
        for name in self.way:
            self.tree.uncurb(name)
        rate = number(floor(self.tree, "own")[0]) * self.chance.choice((1, 1, Fraction(1, 2), 0))
        self.line = (self.chance.choice((self.most, 3 * self.most, 1)), (rate.numerator, rate.denominator))
        self.tokens = Fraction(self.line[0])
        asked_at = self.chance.choice((0, 0, 20))
        for time in range(60):
            if time == asked_at:
                self.told = self.ask(self.line)
            self.change_beside()
            self.come(self.line)
            self.tick()
        while self.tree.waiting("own"):
            self.tick()
        return self

    def waits(self):
        own = [(start, which) for start, which, name in self.tree.goings() if name == "own"]
        return [start - self.comings[self.numbers[which]][0] for start, which in own]


class Promises(unittest.TestCase):
    def test_waits_piles_and_rooms(self):
        pieces = long_waits = great_piles = deep = 0
        for seed in range(240):
            with self.subTest(seed):
                run = Run(seed).go()
                row = [(at, 0, length, 1) for at, length in run.comings]
                self.assertTrue(keeps(row, 0, run.line))
                wait, pile = [number(one) for one in run.told]
                waits = run.waits()
                self.assertEqual(len(waits), len(row))
                self.assertLessEqual(max(waits, default=0), wait)
                self.assertLessEqual(max(run.piles), pile)
                again = Run(seed, whole_above(run.told[1])).go()
                self.assertEqual(again.dropped, 0)
                self.assertEqual(again.tree.goings(), run.tree.goings())
                pieces += len(waits)
                deep += len(run.way) == 4
                long_waits += 2 * max(waits, default=0) > wait
                great_piles += 2 * max(run.piles) > pile
        self.assertGreater(pieces, 1000)
        self.assertGreater(deep, 10)
        self.assertGreater(long_waits, 10)
        self.assertGreater(great_piles, 10)


if __name__ == "__main__":
    unittest.main()
