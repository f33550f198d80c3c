"""Seeded trees in which all is changed while pieces wait: 7.5 to 7.7 by their words, and what 0.3 and 8.2 promise."""

import unittest
from fractions import Fraction
from random import Random

from sharewheel.choosers import Rounds, Starts
from sharewheel.floors import floor
from sharewheel.trees import Tree

NAMES = ("a", "b", "c", "d", "e", "f", "g", "h", "i", "j", "k", "l")


def number(one):
    return Fraction(one[0], one[1])


class PlainClass:
    def __init__(self, under, kind, most, room):
        self.under = under
        self.chooser = {"starts": Starts, "rounds": Rounds}[kind](most) if kind != "leaf" else None
        self.room = room
        self.curb = None
        self.waits = []


class PlainTree:
    """Stage 7 by its words, tick by tick, over the choosers of stage 6."""

    def __init__(self, most, kind):
        self.most = most
        self.classes = {"road": PlainClass(None, kind, most, None)}
        self.time = 0
        self.busy = 0
        self.taken_in = 0
        self.goings = []

    def put(self, name, under, kind, share, room):
        self.classes[under].chooser.put(name, share)
        self.classes[name] = PlainClass(under, kind, self.most, room)

    def take(self, name):
        self.classes[self.classes[name].under].chooser.take(name)
        return [which for which, length in self.classes.pop(name).waits]

    def reshare(self, name, share):
        self.classes[self.classes[name].under].chooser.reshare(name, share)

    def curb(self, name, depth, rate):
        self.classes[name].curb = {"depth": depth, "rate": number(rate), "level": Fraction(depth)}

    def uncurb(self, name):
        self.classes[name].curb = None

    def come(self, name, length):
        leaf = self.classes[name]
        if leaf.room is not None and sum(each for which, each in leaf.waits) + length > leaf.room:
            return None
        leaf.waits.append((self.taken_in, length))
        self.taken_in += 1
        return self.taken_in - 1

    def way(self, name):
        return [] if name == "road" else self.way(self.classes[name].under) + [name]

    def may_go(self, name):
        one = self.classes[name]
        if one.chooser is not None:
            return any([self.may_go(child) for child in one.chooser.names()])
        curbs = [self.classes[each].curb for each in self.way(name)]
        return bool(one.waits) and all(curb["level"] >= one.waits[0][1] for curb in curbs if curb is not None)

    def tick(self):
        if self.busy == 0 and self.may_go("road"):
            self.choose()
        self.busy = max(0, self.busy - 1)
        self.time += 1
        for one in self.classes.values():
            if one.curb is not None:
                one.curb["level"] = min(Fraction(one.curb["depth"]), one.curb["level"] + one.curb["rate"])

    def choose(self):
        name = "road"
        paid = [self.classes["road"]]
        while paid[-1].chooser is not None:
            name = paid[-1].chooser.choose([child for child in paid[-1].chooser.names() if self.may_go(child)])
            paid.append(self.classes[name])
        which, length = paid[-1].waits.pop(0)
        for one in paid:
            if one.chooser is not None:
                one.chooser.pay(length)
            if one.curb is not None:
                one.curb["level"] -= length
        self.goings.append((self.time, which, name))
        self.busy = length


class Run:
    """A tree brought on tick by tick, another one in strides, and a plain one, with all that the promises speak of.

    A class is known by its number, since its name may come again.
    """

    def __init__(self, seed):
        self.chance = Random(seed)
        self.most = self.chance.choice((1, 2, 5, 9))
        self.greatest_share = self.chance.choice((1, 3, 50))
        kind = self.chance.choice(("starts", "rounds"))
        self.tree = Tree(self.most, kind)
        self.stride = Tree(self.most, kind)
        self.plain = PlainTree(self.most, kind)
        self.ids = {"road": 0}
        self.kinds = {0: kind}
        self.shares = {}
        self.classes = 1
        self.versions = {0: 0}
        self.share_versions = {}
        self.lengths = {}
        self.homes = {}
        self.back = []
        self.curbs = []
        self.charges = {}
        self.choices = []
        self.rested = 0
        self.faults = []

    def all_three(self, method, *given):
        self.stride.until(self.tree.now())
        told = [getattr(tree, method)(*given) for tree in (self.tree, self.stride, self.plain)]
        if told[0] != told[1] or told[0] != told[2]:
            self.faults.append((method, given, told))
        return told[0]

    def some_share(self):
        return self.chance.randint(1, self.greatest_share)

    def names(self, leaves):
        return [name for name in self.ids if (self.kinds[self.ids[name]] == "leaf") == leaves]

    def put(self):
        free = [name for name in NAMES if name not in self.ids]
        under = self.chance.choice([one for one in self.names(False) if one == "road" or len(self.tree.way(one)) < 5])
        if free:
            name = self.chance.choice(free)
            kind = self.chance.choice(("leaf", "leaf", "starts", "rounds"))
            share = self.some_share()
            self.all_three("put", name, under, kind, share, self.chance.choice((None, None, 2 * self.most)))
            self.ids[name] = self.classes
            self.kinds[self.classes] = kind
            self.shares[self.classes] = share
            self.share_versions[self.classes] = 0
            self.versions[self.classes] = 0
            self.charges[self.classes] = []
            self.versions[self.ids[under]] += 1
            self.classes += 1

    def above(self, name):
        way = self.tree.way(name)
        return way[-2] if len(way) > 1 else "road"

    def take(self):
        able = [name for name in self.ids if name != "road" and not self.tree.below(name)]
        if able:
            name = self.chance.choice(able)
            self.versions[self.ids[self.above(name)]] += 1
            self.end_curb(name)
            self.back.extend(self.all_three("take", name))
            self.ids.pop(name)

    def reshare(self):
        able = [name for name in self.ids if name != "road"]
        if able:
            name = self.chance.choice(able)
            share = self.some_share()
            self.all_three("reshare", name, share)
            self.shares[self.ids[name]] = share
            self.share_versions[self.ids[name]] += 1
            self.versions[self.ids[self.above(name)]] += 1

    def end_curb(self, name):
        for curb in self.curbs:
            if curb["id"] == self.ids[name]:
                curb["on"] = False

    def curb(self):
        able = [name for name in self.ids if name != "road"]
        if able:
            name = self.chance.choice(able)
            self.end_curb(name)
            if self.chance.random() < 0.4:
                self.all_three("uncurb", name)
            else:
                depth = self.most + self.chance.choice((0, 1, self.most))
                rate = self.chance.choice(((1, 2), (1, 7), (5, 3), (2, 5), (1, 1), (9, 10)))
                self.all_three("curb", name, depth, rate)
                self.curbs.append({"id": self.ids[name], "depth": depth, "rate": number(rate), "on": True, "went": []})

    def come(self):
        able = self.names(True)
        if able:
            name = self.chance.choice(able)
            length = self.chance.randint(1, self.most)
            told = self.all_three("come", name, length)
            if told is not None:
                self.lengths[told] = length
                self.homes[told] = self.ids[name]

    def change(self, calm):
        deed = self.chance.random()
        if deed < calm:
            self.come()
        else:
            self.chance.choice((self.put, self.put, self.take, self.reshare, self.curb))()

    def look(self):
        able = {}
        for name in self.ids:
            able[name] = self.tree.may_go(name)
            if able[name] != self.plain.may_go(name):
                self.faults.append(("may_go", name, self.tree.now()))
        return able

    def tick(self):
        able = self.look()
        floors = {self.ids[name]: floor(self.tree, name) for name in able if able[name] and name != "road"}
        ways = {self.ids[name]: [0] + [self.ids[one] for one in self.tree.way(name)] for name in able if name != "road"}
        before = self.tree.goings()
        free = self.plain.busy == 0
        self.tree.until(self.tree.now() + 1)
        self.plain.tick()
        went = self.tree.goings()[len(before):]
        if self.tree.goings() != self.plain.goings:
            self.faults.append(("goings", self.tree.now()))
        if went:
            self.note(went[0], {self.ids[name] for name in able if able[name]}, floors, ways)
        elif free and able["road"]:
            self.faults.append(("rest", self.tree.now()))
        elif free:
            self.rested += 1

    def note(self, going, ready, floors, ways):
        start, which, name = going
        length = self.lengths[which]
        way = ways[self.ids[name]]
        for one in way[1:]:
            self.charges[one].append((len(self.choices), length, Fraction(length, self.shares[one])))
        for curb in self.curbs:
            if curb["on"] and curb["id"] in way:
                curb["went"].append((start, length))
        self.choices.append({
            "start": start, "which": which, "leaf": self.ids[name], "length": length, "way": way, "ready": ready,
            "floors": floors, "ways": ways, "versions": dict(self.versions), "shares": dict(self.shares),
            "share_versions": dict(self.share_versions),
        })

    def go(self, ticks, calm):
        for name in range(4):
            self.put()
        for time in range(ticks):
            for deed in range(self.chance.choice((0, 0, 1, 1, 2, 3))):
                self.change(calm)
            self.tick()
        self.stride.until(self.tree.now())
        if self.stride.goings() != self.tree.goings():
            self.faults.append("strides")
        return self


RUNS = []


def runs():
    if not RUNS:
        for seed in range(60):
            RUNS.append(Run(seed).go(120, (0.75, 0.9, 0.97)[seed % 3]))
    return RUNS


class Runs(unittest.TestCase):
    def test_by_the_words_of_stage_seven(self):
        for run in runs():
            self.assertEqual(run.faults, [])
        self.assertGreater(sum(run.rested for run in runs()), 200)
        self.assertGreater(sum(len(run.choices) for run in runs()), 1500)

    def test_each_piece_goes_once_or_is_told_back(self):
        told_back = 0
        for run in runs():
            went = [which for start, which, name in run.tree.goings()]
            wait = [which for name in run.names(True) for which in run.tree.waiting(name)]
            self.assertEqual(sorted(went + wait + run.back), sorted(run.lengths))
            told_back += len(run.back)
        self.assertGreater(told_back, 50)

    def test_in_its_leafs_order(self):
        for run in runs():
            last = {}
            for choice in run.choices:
                self.assertEqual(run.homes[choice["which"]], choice["leaf"])
                self.assertGreater(choice["which"], last.get(choice["leaf"], -1))
                last[choice["leaf"]] = choice["which"]

    def test_one_piece_at_a_time(self):
        for run in runs():
            free = 0
            for choice in run.choices:
                self.assertGreaterEqual(choice["start"], free)
                free = choice["start"] + choice["length"]

    def test_curbs(self):
        tight = 0
        for run in runs():
            for curb in run.curbs:
                for place, first in enumerate(curb["went"]):
                    came = 0
                    for last in curb["went"][place:]:
                        came += last[1]
                        may = curb["depth"] + curb["rate"] * (last[0] - first[0])
                        self.assertLessEqual(came, may)
                        tight += came > may - 1
        self.assertGreater(tight, 50)

    def test_floors(self):
        close = 0
        checked = 0
        for run in runs():
            for place, first in enumerate(run.choices):
                for one, (given, lacking) in first["floors"].items():
                    whole = own = 0
                    for choice in run.choices[place:]:
                        same = all(choice["versions"][each] == first["versions"][each] for each in first["ways"][one])
                        if one not in choice["ready"] or not same:
                            break
                        whole += choice["length"]
                        own += choice["length"] if one in choice["way"] else 0
                        self.assertGreaterEqual(own, number(given) * whole - number(lacking))
                        checked += 1
                        close += own < number(given) * whole
        self.assertGreater(checked, 10000)
        self.assertGreater(close, 1000)


class Pairs(unittest.TestCase):
    """Two children of a class, over each run of its choices at which both may go (6.11)."""

    def pairs(self, run):
        """For each inner class its choices, as tuples (place among all choices, child, choice)."""
        choices = {}
        for place, choice in enumerate(run.choices):
            for inner, child in zip(choice["way"], choice["way"][1:]):
                choices.setdefault(inner, []).append((place, child, choice))
        for inner, some in choices.items():
            children = {one for place, child, choice in some for one in choice["ready"]
                        if choice["ways"].get(one, [None, None])[-2:-1] == [inner]}
            for one in sorted(children):
                for other in sorted(children):
                    if one < other:
                        yield run.kinds[inner], some, one, other

    def greatest(self, run, one, last, what):
        return max((charge[what] for charge in run.charges[one] if charge[0] <= last), default=0)

    def test_by_starts(self):
        checked = 0
        for run in runs():
            for kind, some, one, other in self.pairs(run):
                if kind == "starts":
                    for first in range(len(some)):
                        apart = Fraction(0)
                        for place, child, choice in some[first:]:
                            if not {one, other} <= choice["ready"]:
                                break
                            if child in (one, other):
                                step = Fraction(choice["length"], choice["shares"][child])
                                apart += step if child == one else -step
                            bound = self.greatest(run, one, place, 2) + self.greatest(run, other, place, 2)
                            self.assertLessEqual(abs(apart), bound)
                            checked += 1
        self.assertGreater(checked, 3000)

    def test_by_rounds(self):
        checked = 0
        for run in runs():
            for kind, some, one, other in self.pairs(run):
                if kind == "rounds":
                    for first in range(len(some)):
                        begin = some[first][2]
                        apart = Fraction(0)
                        for place, child, choice in some[first:]:
                            same = [choice["share_versions"].get(each) == begin["share_versions"].get(each)
                                    for each in (one, other)]
                            if not {one, other} <= choice["ready"] or not all(same):
                                break
                            if child in (one, other):
                                over_share = Fraction(choice["length"], choice["shares"][child])
                                apart += over_share if child == one else -over_share
                            bound = run.most
                            for each in (one, other):
                                bound += Fraction(self.greatest(run, each, place, 1), choice["shares"][each])
                            self.assertLess(abs(apart), bound)
                            checked += 1
        self.assertGreater(checked, 3000)


if __name__ == "__main__":
    unittest.main()
