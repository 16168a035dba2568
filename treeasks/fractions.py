"""Reckoning with fractions, tuples (top, bottom) in lowest terms."""

from treeasks.errors import NoNumber
from treeasks.numbers import greatest_common, is_whole


def fraction(top, bottom):
    if not is_whole(top) or not is_whole(bottom):
        raise NoNumber("a fraction is made of two whole numbers")
    if bottom == 0:
        raise NoNumber("a fraction has no bottom 0")
    if bottom < 0:
        top, bottom = -top, -bottom
    common = greatest_common(top, bottom)
    return (top // common, bottom // common)


def plus(one, other):
    return fraction(one[0] * other[1] + other[0] * one[1], one[1] * other[1])


def minus(one, other):
    return fraction(one[0] * other[1] - other[0] * one[1], one[1] * other[1])


def times(one, other):
    return fraction(one[0] * other[0], one[1] * other[1])


def parted(one, other):
    # By nought the bottom comes to 0, which fraction refuses.
    return fraction(one[0] * other[1], one[1] * other[0])


def sum_of(some):
    # Over one bottom for all, the terms need lowering once, not at each step.
    bottom = 1
    for one in some:
        bottom = bottom // greatest_common(bottom, one[1]) * one[1]
    return fraction(sum([one[0] * (bottom // one[1]) for one in some]), bottom)


def under(one, other):
    return one[0] * other[1] < other[0] * one[1]


def floor_of(one):
    return one[0] // one[1]
