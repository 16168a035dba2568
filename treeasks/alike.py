"""The rule for rooms alike and sizes one."""

from treeasks.asks import look_at_asks
from treeasks.rules import common_room, keep_from_last, look_at_ones, pile_up


def keep_alike(tree, asks):
    look_at_asks(tree, asks)
    room = common_room(tree)
    look_at_ones(asks)
    pile, prices, rests = pile_up(tree, asks, [(1, room)] * len(asks))
    return (keep_from_last(tree, asks, pile), prices, rests)
