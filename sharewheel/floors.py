"""Floors: what of the road a class of a tree gets at the least, and how long a leaf's pieces wait by it."""

from sharewheel.errors import Curbed, TooMuch
from sharewheel.members import check_share
from sharewheel.ratios import minus, over, plus, ratio, times, total, under
from sharewheel.trees import check_most


def floor(tree, name):
    given = ratio(1, 1)
    lacking = ratio(0, 1)
    for one in tree.way(name):
        part = tree.part(one)
        given = times(given, part)
        lacking = plus(times(part, lacking), tree.lack(one))
    return (given, lacking)


def floor_for(tree, name, line):
    tree.check_leaf(name)
    for one in tree.way(name):
        if tree.curbed(one):
            raise Curbed(one)
    told = floor(tree, name)
    if under(told[0], line[1]):
        raise TooMuch((line[1][0], line[1][1]), told[0])
    return told


def longest_wait(tree, name, line):
    told = floor_for(tree, name, line)
    return plus((tree.most, 1), over(plus((line[0], 1), told[1]), told[0]))


def greatest_pile(tree, name, line):
    told = floor_for(tree, name, line)
    return total([(line[0], 1), told[1], times(told[0], (tree.most, 1))])


def pair_run(share, other, most):
    check_share(share)
    check_share(other)
    check_most(most)
    low = min(share, other)
    high = max(share, other)
    first = most * low // high
    row = [(0, "high", most)]
    if first > 0:
        row.append((1, "low", first))
    row.append((1, "low", most))
    row.append((1, "high", most))
    comes = ratio(first + most, low)
    bound = plus(ratio(most, low), ratio(most, high))
    return (row, comes, minus(bound, comes))
