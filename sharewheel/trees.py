"""The tree of classes in time: classes are put in, curbed and taken out while pieces wait in the leaves and go."""

from sharewheel.buckets import Bucket
from sharewheel.choosers import Rounds, Starts
from sharewheel.errors import NoClass, NoCurb, NoLength, NoName, NoPlace, Taken, TooEarly
from sharewheel.members import check_share

ROAD = "road"
LEAF = "leaf"
INNER_KINDS = ("starts", "rounds")
LETTERS = "abcdefghijklmnopqrstuvwxyz"
LONGEST_NAME = 8
LONGEST_WAY = 5
GREATEST_LENGTH = 1_000_000
GREATEST_DEPTH = 1_000_000_000_000


def check_most(most):
    if not 1 <= most <= GREATEST_LENGTH:
        raise NoLength("the greatest length is from 1 to 10 ** 6")


def is_name(text):
    return 1 <= len(text) <= LONGEST_NAME and all([sign in LETTERS for sign in text])


def chooser_of(kind, most):
    if kind == "starts":
        return Starts(most)
    if kind == "rounds":
        return Rounds(most)
    return None


class Node:
    def __init__(self, above, chooser, room=None):
        self.above = above
        # A leaf has no chooser.
        self.chooser = chooser
        self.room = room
        self.bucket = None
        # What waits in a leaf, in order: tuples (number, length).
        self.queue = []

    def has_children(self):
        return self.chooser is not None and len(self.chooser.names()) > 0

    def has_room_for(self, length):
        return self.room is None or sum([each for number, each in self.queue]) + length <= self.room

    def charge(self, at, length):
        if self.chooser is not None:
            self.chooser.pay(length)
        if self.bucket is not None:
            self.bucket.pay(at, length)


class Tree:
    def __init__(self, most, kind="starts"):
        check_most(most)
        if kind not in INNER_KINDS:
            raise NoPlace("the road is of the kind starts or rounds")
        self.most = most
        self.nodes = {ROAD: Node(None, chooser_of(kind, most))}
        self.time = 0
        self.free = 0
        self.counted = 0
        self.gone = []

    def check_class(self, name):
        if name == ROAD or name not in self.nodes:
            raise NoClass("no class stands by this name")

    def check_leaf(self, name):
        self.check_class(name)
        if self.nodes[name].chooser is not None:
            raise NoPlace("the class is no leaf")

    def check_place(self, under, kind):
        if kind != LEAF and kind not in INNER_KINDS:
            raise NoPlace("a class is of the kind leaf, starts or rounds")
        if self.nodes[under].chooser is None:
            raise NoPlace("no class stands under a leaf")
        if len(self.from_road(under)) > LONGEST_WAY:
            raise NoPlace("a way has at most five names")

    def put(self, name, under, kind, share, room=None):
        if not is_name(name):
            raise NoName("a name has one to eight small letters")
        if name in self.nodes:
            raise Taken("a class stands by this name already")
        if under not in self.nodes:
            raise NoClass("no class stands by the name of the class above")
        self.check_place(under, kind)
        check_share(share)
        if kind == LEAF and room is not None and room < 0:
            raise NoLength("a room is not below 0")
        self.nodes[under].chooser.put(name, share)
        self.nodes[name] = Node(under, chooser_of(kind, self.most), room)

    def take(self, name):
        self.check_class(name)
        if self.nodes[name].has_children():
            raise NoPlace("the class has children")
        self.chooser_over(name).take(name)
        return [number for number, length in self.nodes.pop(name).queue]

    def reshare(self, name, share):
        self.check_class(name)
        self.chooser_over(name).reshare(name, share)

    def curb(self, name, depth, rate):
        self.check_class(name)
        if not self.most <= depth <= GREATEST_DEPTH:
            raise NoCurb("the depth of a curb is from the greatest length to 10 ** 12")
        # The bottom is from 1 on, so the top alone tells the sign.
        if rate[0] <= 0:
            raise NoCurb("the rate of a curb is above 0")
        self.nodes[name].bucket = Bucket(depth, rate, self.time)

    def uncurb(self, name):
        self.check_class(name)
        self.nodes[name].bucket = None

    def curbed(self, name):
        self.check_class(name)
        return self.nodes[name].bucket is not None

    def come(self, name, length):
        self.check_leaf(name)
        if not 1 <= length <= self.most:
            raise NoLength("a length is from 1 to the greatest length")
        if not self.nodes[name].has_room_for(length):
            return None
        number = self.counted
        self.counted = number + 1
        self.nodes[name].queue.append((number, length))
        return number

    def until(self, at):
        if at < self.time:
            raise TooEarly("the tree is at a later time")
        start = self.next_choice()
        while start is not None and start < at:
            self.make_choice(start)
            start = self.next_choice()
        self.time = at

    def now(self):
        return self.time

    def goings(self):
        # A tuple that is told is a new one, never the one kept.
        return [(start, number, name) for start, number, name in self.gone]

    def waiting(self, name):
        self.check_leaf(name)
        return [number for number, length in self.nodes[name].queue]

    def way(self, name):
        self.check_class(name)
        return self.from_road(name)[1:]

    def below(self, name):
        if name != ROAD:
            self.check_class(name)
        chooser = self.nodes[name].chooser
        return [] if chooser is None else chooser.names()

    def may_go(self, name):
        if name != ROAD:
            self.check_class(name)
        return name in self.ready_at(self.time)

    def part(self, name):
        self.check_class(name)
        return self.chooser_over(name).part(name)

    def lack(self, name):
        self.check_class(name)
        return self.chooser_over(name).lack(name)

    def chooser_over(self, name):
        return self.nodes[self.nodes[name].above].chooser

    def from_road(self, name):
        names = []
        while name is not None:
            names.append(name)
            name = self.nodes[name].above
        names.reverse()
        return names

    def full_leaves(self):
        return [name for name, node in self.nodes.items() if node.queue]

    def leaf_time(self, name, at):
        # No level falls while nothing is paid, and by its depth and rate each curb comes to hold any length.
        length = self.nodes[name].queue[0][1]
        buckets = [self.nodes[one].bucket for one in self.from_road(name)]
        return max([bucket.when(at, length) for bucket in buckets if bucket is not None], default=at)

    def ready_at(self, at):
        ready = {}
        for name in self.full_leaves():
            if self.leaf_time(name, at) == at:
                for one in self.from_road(name):
                    ready[one] = True
        return ready

    def next_choice(self):
        at = max(self.time, self.free)
        return min([self.leaf_time(name, at) for name in self.full_leaves()], default=None)

    def make_choice(self, at):
        ready = self.ready_at(at)
        name = ROAD
        while self.nodes[name].chooser is not None:
            chooser = self.nodes[name].chooser
            name = chooser.choose([child for child in chooser.names() if child in ready])
        self.send_first(name, at)

    def send_first(self, name, at):
        first = self.nodes[name].queue.pop(0)
        for one in self.from_road(name):
            self.nodes[one].charge(at, first[1])
        self.gone.append((at, first[0], name))
        self.free = at + first[1]
