"""Fractions: tuples (top, bottom) in lowest terms, the bottom from 1 on."""

from sharewheel.errors import NoRatio


def divisor(one, other):
    great = abs(one)
    small = abs(other)
    while small != 0:
        rest = great % small
        great = small
        small = rest
    return great


def ratio(top, bottom):
    if bottom == 0:
        raise NoRatio("the bottom of a fraction is not 0")
    common = divisor(top, bottom)
    if bottom < 0:
        # Dividing by a number below 0 turns both signs at once.
        common = -common
    return (top // common, bottom // common)


def plus(one, other):
    return ratio(one[0] * other[1] + other[0] * one[1], one[1] * other[1])


def minus(one, other):
    return ratio(one[0] * other[1] - other[0] * one[1], one[1] * other[1])


def times(one, other):
    return ratio(one[0] * other[0], one[1] * other[1])


def over(one, other):
    # A top of 0 becomes the bottom here, so ratio does the refusing.
    return ratio(one[0] * other[1], one[1] * other[0])


def under(one, other):
    return one[0] * other[1] < other[0] * one[1]


def lesser(one, other):
    least = other if under(other, one) else one
    # A tuple that is told is a new one, never the one handed in.
    return (least[0], least[1])


def greater(one, other):
    most = other if under(one, other) else one
    # New for the same reason as in lesser.
    return (most[0], most[1])


def least(some):
    result = some[0]
    for one in some:
        result = lesser(result, one)
    return result


def total(some):
    result = ratio(0, 1)
    for one in some:
        result = plus(result, one)
    return result


def whole_below(one):
    return one[0] // one[1]


def whole_above(one):
    # The division rounds down, so the number turned about is rounded up.
    return -(-one[0] // one[1])
