"""Cuts, which part asks, and flows with cuts as each other's papers."""

from treeasks.asks import look_at_asks
from treeasks.flows import is_flow
from treeasks.numbers import is_between
from treeasks.rules import deepest_first
from treeasks.ways import ways_of


def is_cut(tree, thing):
    if not isinstance(thing, list):
        return False
    least = 1
    for tie in thing:
        if not is_between(tie, least, len(tree[0])):
            return False
        least = tie + 1
    return True


def parts_ways(ways, cut):
    return all([any([tie in cut for tie in way]) for way in ways])


def parts_all(tree, asks, thing):
    look_at_asks(tree, asks)
    return is_cut(tree, thing) and parts_ways(ways_of(tree, asks), thing)


def rooms_of(tree, cut):
    return sum([tree[1][tie - 1] for tie in cut])


def serve(way, left):
    often = min([left[tie - 1] for tie in way])
    for tie in way:
        left[tie - 1] -= often
    return often


def fill_ties(tree, ways, order):
    left = list(tree[1])
    flow = [0] * len(ways)
    row = []
    for number in order:
        flow[number] = serve(ways[number], left)
        # A tie that was filled ahead of this ask stands in the row already.
        row.extend([tie for tie in ways[number] if left[tie - 1] == 0 and tie not in row])
    return (flow, row)


def thinned(ways, row):
    cut = list(row)
    for tie in reversed(row):
        others = [other for other in cut if other != tie]
        if parts_ways(ways, others):
            cut = others
    return sorted(cut)


def flow_and_cut(tree, asks):
    look_at_asks(tree, asks)
    ways = ways_of(tree, asks)
    flow, row = fill_ties(tree, ways, deepest_first(tree, asks))
    return (flow, thinned(ways, row))


def is_flow_paper(tree, asks, thing):
    look_at_asks(tree, asks)
    if not isinstance(thing, tuple) or len(thing) != 2:
        return False
    flow, cut = thing
    if not is_flow(tree, asks, flow) or not parts_all(tree, asks, cut):
        return False
    return rooms_of(tree, cut) <= 2 * sum(flow)
