"""Buckets, which fill up at a rate and are paid from, and rows clipped by them."""

from sharewheel.errors import NoCurb, Short
from sharewheel.pieces import anew
from sharewheel.ratios import lesser, minus, over, plus, ratio, times, under, whole_above


class Bucket:
    def __init__(self, depth, rate, start=0):
        if depth < 1:
            raise NoCurb("the depth of a bucket is from 1 on")
        if under(rate, (0, 1)):
            raise NoCurb("the rate of a bucket is not below 0")
        self.depth = depth
        self.rate = rate
        # The level is kept as it was at one time alone, so that asking for another changes nothing.
        self.since = start
        self.left = ratio(depth, 1)

    def level(self, at):
        grown = plus(self.left, times(self.rate, (at - self.since, 1)))
        return lesser(grown, (self.depth, 1))

    def holds(self, at, length):
        return not under(self.level(at), (length, 1))

    def pay(self, at, length):
        rest = minus(self.level(at), (length, 1))
        if under(rest, (0, 1)):
            raise Short(minus((0, 1), rest))
        self.since = at
        self.left = rest

    def when(self, at, length):
        if self.holds(at, length):
            return at
        if length > self.depth or self.rate == (0, 1):
            return None
        # The level is below the length, hence below the depth, which so does not stop it on the way there.
        missing = minus((length, 1), self.level(at))
        return at + whole_above(over(missing, self.rate))


def buckets_by(lines):
    found = {}
    for who, line in enumerate(lines):
        if line is not None:
            found[who] = Bucket(line[0], line[1])
    return found


def clipped(row, lines):
    buckets = buckets_by(lines)
    staying = []
    for piece in row:
        bucket = buckets.get(piece[1])
        if bucket is None:
            staying.append(anew(piece))
        elif bucket.holds(piece[0], piece[2]):
            bucket.pay(piece[0], piece[2])
            staying.append(anew(piece))
    return staying
