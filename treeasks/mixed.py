"""The rule for rooms alike and sizes to the room: the wide asks and the narrow ones, each by themselves."""

from treeasks.asks import look_at_asks
from treeasks.fractions import sum_of, times
from treeasks.prices import look_at_prices, spare_of
from treeasks.rules import common_room, keep_from_last, look_at_most, pile_up


def room_for_all(tree, asks):
    look_at_asks(tree, asks)
    room = common_room(tree)
    look_at_most(asks, room)
    return room


def is_wide(room, ask):
    return 2 * ask[2] > room


def keep_mixed(tree, asks):
    room = room_for_all(tree, asks)
    # Wide asks share no tie, so each pays the price of a whole tie; narrow ones pay by their sizes.
    wide_terms = [(1, 1) if is_wide(room, ask) else None for ask in asks]
    narrow_terms = [None if is_wide(room, ask) else (ask[2], room - ask[2]) for ask in asks]
    wide, pieces, wide_rests = pile_up(tree, asks, wide_terms)
    narrow, units, narrow_rests = pile_up(tree, asks, narrow_terms)
    return (keep_from_last(tree, asks, wide), keep_from_last(tree, asks, narrow), pieces, units)


def mixed_spare(tree, room, ask, pieces, units):
    if is_wide(room, ask):
        return spare_of(tree, ask, 1, pieces)
    return spare_of(tree, ask, ask[2], units)


def mixed_bound(tree, asks, pieces, units):
    room = room_for_all(tree, asks)
    look_at_prices(tree, pieces)
    look_at_prices(tree, units)
    spared = [mixed_spare(tree, room, ask, pieces, units) for ask in asks]
    return sum_of(pieces + [times((room, 1), sum_of(units))] + spared)
