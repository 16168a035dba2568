"""Best keeps with prices, where sizes are one and there is a pointing.

The ties as they point are arcs over which what is left of their rooms flows; a kept ask is an arc which carries one
in the stead of its way. So a better keep is a round of arcs below nought, and prices are how much nearer places lie.
"""

from treeasks.asks import look_at_asks
from treeasks.errors import NoPointing
from treeasks.keeps import loads
from treeasks.network import path_marks, shortest
from treeasks.pointings import along
from treeasks.rings import pointed
from treeasks.rules import look_at_ones


def tie_ends(tree, pointing, tie):
    parent = tree[0][tie - 1]
    return (tie, parent) if pointing[tie - 1] == "up" else (parent, tie)


def ask_ends(tree, pointing, ask):
    return (ask[0], ask[1]) if all(along(tree, ask, pointing)) else (ask[1], ask[0])


def tie_arcs(tree, pointing, load):
    arcs = []
    for place, room in enumerate(tree[1]):
        start, end = tie_ends(tree, pointing, place + 1)
        arcs.append((start, end, 0, None))
        if load[place] < room:
            arcs.append((end, start, 0, None))
    return arcs


def ask_arcs(tree, pointing, asks, keep):
    arcs = []
    for number, ask in enumerate(asks):
        start, end = ask_ends(tree, pointing, ask)
        if number in keep:
            arcs.append((end, start, ask[3], number))
        else:
            arcs.append((start, end, -ask[3], number))
    return arcs


def arcs_left(tree, pointing, asks, keep):
    return tie_arcs(tree, pointing, loads(tree, asks, keep)) + ask_arcs(tree, pointing, asks, keep)


def best_with_next(tree, pointing, asks, keep):
    # The keep is a best one of all asks but the last. As that one carries one at most, turning a single shortest
    # round through it leaves no round below nought, so the new keep is a best one of them all.
    number = len(asks) - 1
    start, end = ask_ends(tree, pointing, asks[number])
    starts = [None] * (len(tree[0]) + 1)
    starts[end] = 0
    far, last = shortest(arcs_left(tree, pointing, asks[:number], keep), starts)
    if far[start] is None or far[start] >= asks[number][3]:
        return keep
    turned = [mark for mark in path_marks(last, start) if mark is not None]
    return sorted(set(keep) ^ set(turned + [number]))


def prices_of(tree, pointing, asks, keep):
    far, last = shortest(arcs_left(tree, pointing, asks, keep), [0] * (len(tree[0]) + 1))
    prices = []
    for tie in range(1, len(tree[0]) + 1):
        start, end = tie_ends(tree, pointing, tie)
        prices.append((far[start] - far[end], 1))
    return prices


def best_keep(tree, asks):
    look_at_asks(tree, asks)
    look_at_ones(asks)
    answer, found = pointed(tree, asks)
    if answer == "ring":
        raise NoPointing(found)
    keep = []
    for number in range(len(asks)):
        keep = best_with_next(tree, found, asks[:number + 1], keep)
    return (keep, prices_of(tree, found, asks, keep))
