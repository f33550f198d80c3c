"""The even wheel: it deals the road out piece by piece, by the tags of the flowing road."""

from sharewheel.ratios import under
from sharewheel.tides import Tide


class Wheel:
    def __init__(self):
        self.tide = Tide()
        self.free = 0
        # What waits, by rising place: tuples (place, piece, tags).
        self.queue = []
        self.gone = []

    def piled_up(self, who):
        return sum([piece[2] for place, piece, tags in self.queue if piece[1] == who])

    def take_in(self, place, piece):
        self.queue.append((place, piece, self.tide.come(piece)))

    def choice_time(self):
        # The first in the queue came first, and a road that was free since then would have been given to it.
        return max(self.free, self.queue[0][1][0])

    def next_to_go(self, mark):
        chosen = None
        # By rising place, so of equal end tags the first one seen stays.
        for one in self.queue:
            begun = not under(mark, one[2][0])
            if begun and (chosen is None or under(one[2][1], chosen[2][1])):
                chosen = one
        return chosen

    def make_choice(self):
        start = self.choice_time()
        chosen = self.next_to_go(self.tide.mark(start))
        self.queue.remove(chosen)
        self.gone.append((chosen[0], start))
        self.free = start + chosen[1][2]

    def run_up_to(self, at):
        # A choice at the very time comes behind all that comes then, so it is not made yet.
        while self.queue and self.choice_time() < at:
            self.make_choice()

    def run_out(self):
        while self.queue:
            self.make_choice()


def overflows(wheel, piece, rooms):
    room = rooms.get(piece[1])
    return room is not None and wheel.piled_up(piece[1]) + piece[2] > room


def dealt(row, rooms=None):
    wheel = Wheel()
    dropped = []
    for place, piece in enumerate(row):
        wheel.run_up_to(piece[0])
        if rooms is not None and overflows(wheel, piece, rooms):
            dropped.append(place)
        else:
            wheel.take_in(place, piece)
    wheel.run_out()
    return (wheel.gone, dropped)


def waited(row, goings):
    return [(place, start + row[place][2] - row[place][0]) for place, start in goings]


def left_at(piece, start, at):
    # What has not begun counts whole, what has ended nothing.
    return max(0, min(piece[2], start + piece[2] - at))


def piled(row, goings, who, at):
    pile = 0
    for place, start in goings:
        piece = row[place]
        if piece[1] == who and piece[0] <= at:
            pile = pile + left_at(piece, start, at)
    return pile
