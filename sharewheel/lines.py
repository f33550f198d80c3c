"""Lines, tuples (burst, rate): by one of them burst + rate * time may come within a time."""

from sharewheel.errors import NoLine
from sharewheel.pieces import of_sender
from sharewheel.ratios import plus, times, under

GREATEST_BURST = 1_000_000_000_000


def line(burst, rate):
    if not 1 <= burst <= GREATEST_BURST:
        raise NoLine("the burst of a line is from 1 to 10 ** 12")
    if under(rate, (0, 1)):
        raise NoLine("the rate of a line is not below 0")
    return (burst, (rate[0], rate[1]))


def allowed(line, time):
    return plus((line[0], 1), times(line[1], (time, 1)))


def breaking_first(row, places, line):
    end = row[places[-1]][0]
    came = 0
    # Backwards, since of the pairs with one last the greatest first is told.
    for place in reversed(places):
        came = came + row[place][2]
        if under(allowed(line, end - row[place][0]), (came, 1)):
            return place
    return None


def breach(row, who, line):
    places = of_sender(row, who)
    for count, last in enumerate(places, start=1):
        first = breaking_first(row, places[:count], line)
        if first is not None:
            return (first, last)
    return None


def keeps(row, who, line):
    return breach(row, who, line) is None
