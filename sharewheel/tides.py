"""The mark of the flowing road, and the tags that it gives to pieces as they come."""

from sharewheel.ratios import greater, least, minus, over, plus, ratio, times, under


def heads_of(tagged, mark):
    # All of these have come, so a begin tag above the mark is the end tag of a piece that still flows ahead of it.
    return [one for one in tagged if not under(mark, one[0]) and under(mark, one[1])]


class Tide:
    def __init__(self):
        # All is kept as it was at the coming of the piece told last, so that asking changes nothing.
        self.latest = 0
        self.reached = ratio(0, 1)
        self.unflowed = []
        self.last_ends = {}

    def mark(self, at):
        moment = (self.latest, 1)
        reached = self.reached
        heads = heads_of(self.unflowed, reached)
        while heads:
            shares = (sum([share for begin, end, share in heads]), 1)
            first_end = least([end for begin, end, share in heads])
            after = plus(moment, times(minus(first_end, reached), shares))
            if under((at, 1), after):
                return plus(reached, over(minus((at, 1), moment), shares))
            moment = after
            reached = first_end
            heads = heads_of(self.unflowed, reached)
        return (reached[0], reached[1])

    def come(self, piece):
        reached = self.mark(piece[0])
        self.latest = piece[0]
        self.reached = reached
        self.unflowed = [one for one in self.unflowed if under(reached, one[1])]
        begin = greater(reached, self.last_ends.get(piece[1], reached))
        end = plus(begin, ratio(piece[2], piece[3]))
        self.unflowed.append((begin, end, piece[3]))
        self.last_ends[piece[1]] = end
        return (begin, end)
