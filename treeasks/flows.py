"""Flows: how often each ask is served."""

from treeasks.asks import look_at_asks
from treeasks.numbers import is_whole
from treeasks.ways import way_of


def is_count(thing):
    return is_whole(thing) and thing >= 0


def taken_by(tree, asks, flow):
    taken = [0] * len(tree[0])
    for ask, often in zip(asks, flow):
        for tie in way_of(tree, ask):
            taken[tie - 1] += often
    return taken


def is_flow(tree, asks, thing):
    look_at_asks(tree, asks)
    if not isinstance(thing, list) or len(thing) != len(asks):
        return False
    if not all([is_count(often) for often in thing]):
        return False
    return all([taken <= room for taken, room in zip(taken_by(tree, asks, thing), tree[1])])
