"""Members: names with shares, in the order in which they were put in."""

from sharewheel.errors import NoClass, NoShare, Taken
from sharewheel.ratios import ratio

GREATEST_SHARE = 1_000_000


def check_share(share):
    if not 1 <= share <= GREATEST_SHARE:
        raise NoShare("a share is from 1 to 10 ** 6")


class Members:
    def __init__(self):
        self.shares = {}

    def check_name(self, name):
        if name not in self.shares:
            raise NoClass("nobody stands by this name")

    def put(self, name, share):
        if name in self.shares:
            raise Taken("somebody stands by this name already")
        check_share(share)
        self.shares[name] = share

    def take(self, name):
        self.check_name(name)
        self.shares.pop(name)

    def reshare(self, name, share):
        self.check_name(name)
        check_share(share)
        self.shares[name] = share

    def names(self):
        return list(self.shares)

    def share_of(self, name):
        self.check_name(name)
        return self.shares[name]

    def all_shares(self):
        return sum(self.shares.values())

    def part(self, name):
        return ratio(self.share_of(name), self.all_shares())
