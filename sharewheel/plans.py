"""The planner: how much of each sender can pile up, and how long it can wait, where each keeps its line."""

from sharewheel.errors import TooMuch
from sharewheel.ratios import greater, least, minus, over, plus, ratio, times, total, under, whole_above


def check_rates(senders):
    asked = total([line[1] for share, line in senders])
    if not under(asked, (1, 1)):
        raise TooMuch(asked, ratio(1, 1))


def full_ones(heaps):
    return [number for number, heap in enumerate(heaps) if under((0, 1), heap)]


def outs_of(senders, heaps):
    full = full_ones(heaps)
    shares = sum([senders[number][0] for number in full])
    outs = [ratio(line[1][0], line[1][1]) for share, line in senders]
    left = minus((1, 1), total([out for number, out in enumerate(outs) if number not in full]))
    for number in full:
        outs[number] = times(left, ratio(senders[number][0], shares))
    return outs


def time_to_empty(heaps, falls):
    # All rates come to less than 1, so what is full falls on the whole, and hence some heap of it does.
    return least([over(heap, fall) for heap, fall in zip(heaps, falls) if under((0, 1), fall)])


def course(senders):
    check_rates(senders)
    heaps = [ratio(line[0], 1) for share, line in senders]
    moment = ratio(0, 1)
    parts = []
    while full_ones(heaps):
        outs = outs_of(senders, heaps)
        falls = [minus(out, senders[number][1][1]) for number, out in enumerate(outs)]
        time = time_to_empty(heaps, falls)
        after = plus(moment, time)
        parts.append((moment, after, outs, heaps))
        heaps = [minus(heap, times(fall, time)) for heap, fall in zip(heaps, falls)]
        moment = after
    return parts


def spread(senders):
    return [(start, end, outs) for start, end, outs, heaps in course(senders)]


def greatest(some):
    result = ratio(0, 1)
    for one in some:
        result = greater(result, one)
    return result


def piles(senders):
    parts = course(senders)
    # A heap grows or falls evenly within a part, and at the end of the last one all are empty.
    return [greatest([part[3][number] for part in parts]) for number in range(len(senders))]


def waits_at_turns(parts, number, line):
    burst = (line[0], 1)
    gone = ratio(0, 1)
    found = []
    for start, end, outs, heaps in parts:
        before = gone
        gone = plus(before, times(outs[number], minus(end, start)))
        if under(gone, burst):
            continue
        if under(before, burst):
            found.append(plus(start, over(minus(burst, before), outs[number])))
        if under((0, 1), line[1]):
            # What is out last at the end of this part came when burst and rate had brought as much.
            found.append(minus(end, over(minus(gone, burst), line[1])))
    return found


def waits(senders):
    parts = course(senders)
    # Between these turns the wait grows or falls evenly with the moment of coming.
    return [greatest(waits_at_turns(parts, number, sender[1])) for number, sender in enumerate(senders)]


def rooms_for(senders, longest):
    rooms = {}
    for number, pile in enumerate(piles(senders)):
        rooms[number] = whole_above(plus(pile, (longest, 1)))
    return rooms
