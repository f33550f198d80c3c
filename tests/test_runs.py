"""Seeded runs of both kinds of choosers: 6.4 and 6.7 by their words, 6.5 and 6.9 at each deed, 6.11 and 6.12."""

import unittest
from fractions import Fraction
from random import Random

from sharewheel.choosers import Rounds, Starts

NAMES = ("a", "b", "c", "d", "e", "f")


def number(one):
    return Fraction(one[0], one[1])


class PlainStarts:
    """6.4 by its words."""

    def __init__(self, most):
        self.clock = Fraction(0)
        self.children = []

    def put(self, name, share):
        self.children.append({"name": name, "share": share, "tag": Fraction(0)})

    def find(self, name):
        return [child for child in self.children if child["name"] == name][0]

    def take(self, name):
        self.children.remove(self.find(name))

    def reshare(self, name, share):
        self.find(name)["share"] = share

    def stands(self, name):
        return max(self.find(name)["tag"], self.clock)

    def go(self, ready, length):
        able = [child for child in self.children if child["name"] in ready]
        chosen = min(able, key=lambda child: self.stands(child["name"]))
        self.clock = self.stands(chosen["name"])
        chosen["tag"] = self.clock + Fraction(length, chosen["share"])
        return chosen["name"]


class PlainRounds:
    """6.7 by its words."""

    def __init__(self, most):
        self.most = most
        self.line = []
        self.turn = None
        self.shares = {}
        self.rests = {}

    def put(self, name, share):
        self.shares[name] = share
        self.rests[name] = 0
        self.line.append(name)

    def take(self, name):
        if name == self.turn:
            self.turn = None
        self.line = [one for one in self.line if one != name]

    def reshare(self, name, share):
        self.shares[name] = share
        if self.rests[name] > share * self.most:
            self.rests[name] = share * self.most

    def go(self, ready, length):
        if not (self.turn in ready and self.rests[self.turn] > 0):
            if self.turn is not None:
                if self.rests[self.turn] > 0:
                    self.rests[self.turn] = 0
                self.line.append(self.turn)
            self.turn = [name for name in self.line if name in ready][0]
            self.line.remove(self.turn)
            self.rests[self.turn] += self.shares[self.turn] * self.most
        self.rests[self.turn] -= length
        return self.turn


class Run:
    """A chooser beside a plain one, and all that was done: for each choice what 6.11 and 6.12 speak of."""

    def __init__(self, kind, plain, chance, most, greatest_share):
        self.chance = chance
        self.most = most
        self.greatest_share = greatest_share
        self.chooser = kind(most)
        self.plain = plain(most)
        self.ids = {}
        self.children = 0
        self.changed = 0
        self.share_changes = {}
        self.choices = []

    def some_share(self):
        return self.chance.randint(1, self.greatest_share)

    def put(self, name):
        share = self.some_share()
        self.chooser.put(name, share)
        self.plain.put(name, share)
        self.ids[name] = self.children
        self.share_changes[self.ids[name]] = 0
        self.children += 1
        self.changed += 1

    def take(self, name):
        self.chooser.take(name)
        self.plain.take(name)
        self.ids.pop(name)
        self.changed += 1

    def reshare(self, name):
        share = self.some_share()
        self.chooser.reshare(name, share)
        self.plain.reshare(name, share)
        self.share_changes[self.ids[name]] += 1
        self.changed += 1

    def change(self):
        absent = [name for name in NAMES if name not in self.ids]
        deed = self.chance.choice(("put", "take", "reshare", "reshare"))
        if deed == "put" and absent:
            self.put(self.chance.choice(absent))
        elif deed == "take" and len(self.ids) > 2:
            self.take(self.chance.choice(sorted(self.ids)))
        else:
            self.reshare(self.chance.choice(sorted(self.ids)))

    def some_length(self):
        return self.chance.choice((1, self.most, self.chance.randint(1, self.most)))

    def choose(self, idle):
        names = self.chance.sample(sorted(self.ids), len(self.ids))
        ready = [name for name in names if self.chance.random() >= idle] or names[:1]
        length = self.some_length()
        told = {name: (number(self.chooser.part(name)), number(self.chooser.lack(name))) for name in ready}
        chosen = self.chooser.choose(ready)
        self.chooser.pay(length)
        self.choices.append({
            "plain": self.plain.go(ready, length), "chosen": chosen, "length": length,
            "share": self.chooser.share_of(chosen), "told": told, "changed": self.changed,
            "ids": {name: self.ids[name] for name in ready},
            "shares": {name: self.chooser.share_of(name) for name in ready},
            "share_changes": {name: self.share_changes[self.ids[name]] for name in ready},
        })


def some_runs(kind, plain, seed, count=40, choices=70):
    chance = Random(seed)
    for turn in range(count):
        most = chance.choice((1, 4, 30, 10 ** 6))
        run = Run(kind, plain, chance, most, chance.choice((1, 3, 10, 10 ** 6)))
        for name in NAMES[:chance.randint(2, 4)]:
            run.put(name)
        change = chance.choice((0, 0.02, 0.1, 0.4))
        idle = chance.choice((0, 0.05, 0.3))
        for place in range(choices):
            while chance.random() < change:
                run.change()
                yield run
            run.choose(idle)
            yield run


def whole_runs(kind, plain, seed):
    seen = None
    for run in some_runs(kind, plain, seed):
        if seen is not None and run is not seen:
            yield seen
        seen = run
    yield seen


KINDS = ((Starts, PlainStarts), (Rounds, PlainRounds))


class ByTheWords(unittest.TestCase):
    def test_who_goes(self):
        for kind, plain in KINDS:
            for run in whole_runs(kind, plain, 71):
                for choice in run.choices:
                    self.assertEqual(choice["chosen"], choice["plain"])
                    self.assertIn(choice["chosen"], choice["ids"])

    def test_starts_at_each_deed(self):
        clock = {}
        for run in some_runs(Starts, PlainStarts, 72):
            chooser = run.chooser
            now = number(chooser.clock())
            self.assertEqual(now, run.plain.clock)
            self.assertLessEqual(clock.get(run, 0), now)
            clock[run] = now
            self.assertEqual(chooser.names(), [child["name"] for child in run.plain.children])
            for name in chooser.names():
                stand = number(chooser.stands(name))
                self.assertEqual(stand, run.plain.stands(name))
                self.assertLessEqual(now, stand)
                self.assertLessEqual(stand, now + number(chooser.step(name)))

    def test_rounds_at_each_deed(self):
        for run in some_runs(Rounds, PlainRounds, 73):
            chooser = run.chooser
            self.assertEqual((chooser.holder(), chooser.lined()), (run.plain.turn, run.plain.line))
            self.assertEqual(sorted(chooser.names()), sorted(run.ids))
            for name in chooser.names():
                rest = chooser.rest(name)
                self.assertEqual(rest, run.plain.rests[name])
                self.assertLessEqual(rest, chooser.share_of(name) * run.most)
                self.assertLess(-run.most, rest)
                if name != chooser.holder():
                    self.assertLessEqual(rest, 0)

    def test_steps_at_each_deed(self):
        for run in some_runs(Starts, PlainStarts, 74):
            for name in run.chooser.names():
                charges = [
                    Fraction(choice["length"], choice["share"]) for choice in run.choices
                    if choice["chosen"] == name and choice["ids"][name] == run.ids[name]
                ]
                wanted = max([Fraction(run.most, run.chooser.share_of(name))] + charges)
                self.assertEqual(number(run.chooser.step(name)), wanted)


def both_ready(choice, pair):
    return all(name in choice["ids"] for name in pair)


def greatest_before(run, name, place, value):
    """The greatest of a child's charges, since its putting in, up to a place of the choices."""
    child = run.choices[place]["ids"][name]
    return max([
        value(choice) for choice in run.choices[:place + 1]
        if choice["chosen"] == name and choice["ids"][name] == child
    ], default=0)


def step_of(choice):
    return Fraction(choice["length"], choice["share"])


def length_of(choice):
    return choice["length"]


class Pairs(unittest.TestCase):
    """6.11 over every run of choices."""

    def pairs_of(self, run):
        return [(one, other) for one in NAMES for other in NAMES if one < other]

    def runs_of(self, run, pair, same):
        """Each longest run of choices at which both are ready and to which nothing is done that 6.11 shuts out."""
        places = []
        for place, choice in enumerate(run.choices):
            if places and not (both_ready(choice, pair) and same(run.choices[places[-1]], choice)):
                yield places
                places = []
            if both_ready(choice, pair):
                places.append(place)
        if places:
            yield places

    def differences(self, run, pair, places):
        """For each place the greatest difference, over all runs that end there."""
        sums = [Fraction(0)]
        for place in places:
            choice = run.choices[place]
            step = step_of(choice) if choice["chosen"] in pair else Fraction(0)
            sums.append(sums[-1] + (step if choice["chosen"] == pair[0] else -step))
            yield (place, max(abs(sums[-1] - before) for before in sums[:-1]))

    def same_children(self, pair):
        return lambda one, other: all(one["ids"][name] == other["ids"][name] for name in pair)

    def same_shares(self, pair):
        return lambda one, other: all(
            one["ids"][name] == other["ids"][name] and one["share_changes"][name] == other["share_changes"][name]
            for name in pair
        )

    def test_by_starts(self):
        seen = 0
        for run in whole_runs(Starts, PlainStarts, 75):
            for pair in self.pairs_of(run):
                for places in self.runs_of(run, pair, self.same_children(pair)):
                    for place, difference in self.differences(run, pair, places):
                        allowed = sum(greatest_before(run, name, place, step_of) for name in pair)
                        self.assertLessEqual(difference, allowed)
                        seen += 1
        self.assertGreater(seen, 2000)

    def test_by_rounds(self):
        seen = 0
        for run in whole_runs(Rounds, PlainRounds, 76):
            for pair in self.pairs_of(run):
                for places in self.runs_of(run, pair, self.same_shares(pair)):
                    self.assert_rounds(run, pair, places)
                    seen += len(places)
        self.assertGreater(seen, 2000)

    def assert_rounds(self, run, pair, places):
        shares = run.choices[places[0]]["shares"]
        for place, difference in self.differences(run, pair, places):
            lengths = [Fraction(greatest_before(run, name, place, length_of), shares[name]) for name in pair]
            self.assertLess(difference, run.most + sum(lengths))


class Parts(unittest.TestCase):
    """6.12 over every run of choices."""

    def assert_part(self, run, name, places):
        for first, start in enumerate(places):
            part, lack = run.choices[start]["told"][name]
            whole = 0
            own = 0
            for place in places[first:]:
                choice = run.choices[place]
                whole += choice["length"]
                own += choice["length"] if choice["chosen"] == name else 0
                self.assertGreaterEqual(own, part * whole - lack)

    def runs_of(self, run, name):
        """Each longest run of choices at which a child is ready, with nothing changed in between."""
        places = []
        for place, choice in enumerate(run.choices):
            ready = name in choice["ids"]
            if places and not (ready and run.choices[places[-1]]["changed"] == choice["changed"]):
                yield places
                places = []
            if ready:
                places.append(place)
        if places:
            yield places

    def test_both_kinds(self):
        for kind, plain in KINDS:
            seen = 0
            for run in whole_runs(kind, plain, 77):
                for name in NAMES:
                    for places in self.runs_of(run, name):
                        self.assert_part(run, name, places)
                        seen += len(places)
            self.assertGreater(seen, 2000)


if __name__ == "__main__":
    unittest.main()
