"""The flowing road, which bears pieces of several senders at once: its stretches, spans and amounts."""

from sharewheel.ratios import greater, least, lesser, minus, over, plus, ratio, times, total, under
from sharewheel.tides import Tide


def tags_of(row):
    tide = Tide()
    return [tide.come(piece) for piece in row]


def heads_at(row, tags, moment, mark):
    heads = []
    for place, piece in enumerate(row):
        begin = tags[place][0]
        end = tags[place][1]
        # The mark may stand at a begin tag ahead of the coming, while the road rests.
        come = not under(moment, (piece[0], 1))
        if come and not under(mark, begin) and under(mark, end):
            heads.append(place)
    return heads


def first_end(tags, heads, shares, moment, mark):
    way = minus(least([tags[place][1] for place in heads]), mark)
    return plus(moment, times(way, (shares, 1)))


def flow(row):
    tags = tags_of(row)
    stretches = []
    moment = ratio(0, 1)
    mark = ratio(0, 1)
    while True:
        heads = heads_at(row, tags, moment, mark)
        shares = sum([row[place][3] for place in heads])
        changes = [ratio(piece[0], 1) for piece in row if under(moment, (piece[0], 1))]
        if heads:
            changes.append(first_end(tags, heads, shares, moment, mark))
        if not changes:
            return stretches
        after = least(changes)
        if heads:
            stretches.append((moment, after, [(place, ratio(row[place][3], shares)) for place in heads]))
            mark = plus(mark, over(minus(after, moment), (shares, 1)))
        moment = after


def spans(row):
    ends = {}
    for start, end, parts in flow(row):
        for place, rate in parts:
            ends[place] = end
    ahead = {}
    told = []
    for place, piece in enumerate(row):
        begin = greater((piece[0], 1), ahead.get(piece[1], (0, 1)))
        # A piece without length is in no stretch: it ends where it begins.
        end = ends.get(place, begin)
        ahead[piece[1]] = end
        told.append((begin, end))
    return told


def flowed(row, who, at):
    some = []
    for start, end, parts in flow(row):
        if under(start, (at, 1)):
            time = minus(lesser(end, (at, 1)), start)
            some.extend([times(rate, time) for place, rate in parts if row[place][1] == who])
    return total(some)
