"""Pieces, tuples (at, who, length, share), and rows, lists of them in order of coming."""

from sharewheel.errors import BadRow

LATEST = 1_000_000_000_000
LAST_SENDER = 11
GREATEST = 1_000_000
MOST_PIECES = 60


def in_ranges(piece):
    return (
        0 <= piece[0] <= LATEST
        and 0 <= piece[1] <= LAST_SENDER
        and 1 <= piece[2] <= GREATEST
        and 1 <= piece[3] <= GREATEST
    )


def first_bad(row):
    before = 0
    for place, piece in enumerate(row):
        # A time below 0 is out of its range anyway, so 0 stands for no piece ahead.
        if place >= MOST_PIECES or not in_ranges(piece) or piece[0] < before:
            return place
        before = piece[0]
    return None


def anew(piece):
    # A tuple that is told is a new one, never the one handed in.
    return (piece[0], piece[1], piece[2], piece[3])


def checked(row):
    place = first_bad(row)
    if place is not None:
        raise BadRow(place)
    return [anew(piece) for piece in row]


def of_sender(row, who):
    return [place for place, piece in enumerate(row) if piece[1] == who]


def longest(row):
    return max([piece[2] for piece in row], default=0)


def came(row, who, start, end):
    return sum([piece[2] for piece in row if piece[1] == who and start <= piece[0] <= end])
