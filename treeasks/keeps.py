"""Keeps: rising lists of asks' numbers, their loads and their worth."""

from treeasks.asks import look_at_asks
from treeasks.errors import NoKeep
from treeasks.numbers import is_between
from treeasks.ways import way_of


def look_at_keep(tree, asks, thing):
    look_at_asks(tree, asks)
    if not isinstance(thing, list):
        raise NoKeep(None)
    least = 0
    for place, number in enumerate(thing):
        if not is_between(number, least, len(asks) - 1):
            raise NoKeep(place)
        least = number + 1


def lay_on(ask, way, load):
    for tie in way:
        load[tie - 1] += ask[2]


def load_with(tree, ask, load):
    found = list(load)
    lay_on(ask, way_of(tree, ask), found)
    return found


def over_on(tree, ask, way, load):
    return [tie for tie in way if load[tie - 1] + ask[2] > tree[1][tie - 1]]


def over_with(tree, ask, load):
    return over_on(tree, ask, way_of(tree, ask), load)


def loads(tree, asks, keep):
    look_at_keep(tree, asks, keep)
    found = [0] * len(tree[0])
    for number in keep:
        found = load_with(tree, asks[number], found)
    return found


def first_over(tree, asks, keep):
    for number, load in enumerate(loads(tree, asks, keep)):
        if load > tree[1][number]:
            return number + 1
    return None


def worth_of(tree, asks, keep):
    look_at_keep(tree, asks, keep)
    return sum([asks[number][3] for number in keep])
