"""Choosers, which say which of several children goes next: by starts, or by rounds."""

from sharewheel.errors import NoneReady
from sharewheel.members import Members
from sharewheel.ratios import greater, plus, ratio, times, under


class Chooser:
    # Each kind has its own enter, leave, fit_in, pick, charge, step and turn_length; all else is here.

    def __init__(self, most):
        self.most = most
        self.members = Members()
        self.chosen = None

    def put(self, name, share):
        self.members.put(name, share)
        self.enter(name)

    def take(self, name):
        self.members.take(name)
        self.leave(name)

    def reshare(self, name, share):
        self.members.reshare(name, share)
        self.fit_in(name)

    def names(self):
        return self.members.names()

    def share_of(self, name):
        return self.members.share_of(name)

    def part(self, name):
        return self.members.part(name)

    def choose(self, ready):
        if not ready:
            raise NoneReady("no child is ready")
        for name in ready:
            self.members.check_name(name)
        self.chosen = self.pick(ready)
        return self.chosen

    def pay(self, length):
        self.charge(self.chosen, length)

    def lack(self, name):
        others = len(self.names()) - 1
        shares = self.members.all_shares() - self.share_of(name)
        reach = plus(self.step(name), (self.turn_length(), 1))
        behind = plus((others * self.most, 1), times((shares, 1), reach))
        return times(self.part(name), behind)

    def bound(self, one, other):
        steps = plus(self.step(one), self.step(other))
        return plus(steps, (self.turn_length(), 1))


class Starts(Chooser):
    def __init__(self, most):
        Chooser.__init__(self, most)
        self.reached = ratio(0, 1)
        self.tags = {}
        self.greatest_steps = {}

    def enter(self, name):
        self.tags[name] = ratio(0, 1)
        self.greatest_steps[name] = ratio(0, 1)

    def leave(self, name):
        self.tags.pop(name)
        self.greatest_steps.pop(name)

    def fit_in(self, name):
        # A tag that is set stays, whatever the share is from now on.
        pass

    def pick(self, ready):
        first = None
        # In the order of putting in, so of equal ones the first one seen stays.
        for name in self.names():
            if name in ready and (first is None or under(self.stands(name), self.stands(first))):
                first = name
        self.reached = self.stands(first)
        return first

    def charge(self, name, length):
        step = ratio(length, self.share_of(name))
        self.tags[name] = plus(self.reached, step)
        self.greatest_steps[name] = greater(self.greatest_steps[name], step)

    def clock(self):
        # A tuple that is told is a new one, never the one kept.
        return (self.reached[0], self.reached[1])

    def stands(self, name):
        self.members.check_name(name)
        return greater(self.tags[name], self.reached)

    def step(self, name):
        return greater(ratio(self.most, self.share_of(name)), self.greatest_steps[name])

    def turn_length(self):
        return 0


class Rounds(Chooser):
    def __init__(self, most):
        Chooser.__init__(self, most)
        self.queue = []
        self.rests = {}
        # Who has the turn stands in no line.
        self.turn = None

    def enter(self, name):
        self.queue.append(name)
        self.rests[name] = 0

    def leave(self, name):
        if self.turn == name:
            self.turn = None
        else:
            self.queue.remove(name)
        self.rests.pop(name)

    def full_rest(self, name):
        return self.share_of(name) * self.most

    def fit_in(self, name):
        self.rests[name] = min(self.rests[name], self.full_rest(name))

    def pick(self, ready):
        if self.turn in ready and self.rests[self.turn] > 0:
            return self.turn
        self.end_turn()
        return self.begin_turn(ready)

    def end_turn(self):
        if self.turn is not None:
            self.rests[self.turn] = min(self.rests[self.turn], 0)
            self.queue.append(self.turn)
            self.turn = None

    def begin_turn(self, ready):
        name = [one for one in self.queue if one in ready][0]
        self.queue.remove(name)
        self.turn = name
        self.rests[name] = self.rests[name] + self.full_rest(name)
        return name

    def charge(self, name, length):
        self.rests[name] = self.rests[name] - length

    def rest(self, name):
        self.members.check_name(name)
        return self.rests[name]

    def holder(self):
        return self.turn

    def lined(self):
        return list(self.queue)

    def step(self, name):
        return ratio(self.most, self.share_of(name))

    def turn_length(self):
        return self.most
