"""The rule for rooms unlike: the asks of the greatest worth by size first."""

from treeasks.asks import look_at_asks
from treeasks.fractions import fraction, under
from treeasks.keeps import lay_on, over_on
from treeasks.rules import are_ones, look_at_halves
from treeasks.ways import ways_of


def rate_of(ask):
    return fraction(ask[3], ask[2])


def greatest_rate_first(asks):
    order = []
    for number, ask in enumerate(asks):
        place = len(order)
        while place > 0 and under(rate_of(asks[order[place - 1]]), rate_of(ask)):
            place -= 1
        order.insert(place, number)
    return order


def fill_up(tree, asks, ways, kept, order):
    # Those kept ahead stay. Told are also those that are sent, by the order.
    load = [0] * len(tree[0])
    prices = [(0, 1)] * len(tree[0])
    keep = list(kept)
    sent = []
    for number in kept:
        lay_on(asks[number], ways[number], load)
    for number in order:
        over = over_on(tree, asks[number], ways[number], load)
        if over:
            sent.append(number)
            if all([prices[tie - 1] == (0, 1) for tie in over]):
                prices[over[0] - 1] = rate_of(asks[number])
        else:
            keep.append(number)
            lay_on(asks[number], ways[number], load)
    return (sorted(keep), prices, sent)


def keep_unlike(tree, asks):
    look_at_asks(tree, asks)
    if not are_ones(asks):
        look_at_halves(tree, asks)
    keep, prices, sent = fill_up(tree, asks, ways_of(tree, asks), [], greatest_rate_first(asks))
    return (keep, prices)
