"""The rule for rooms unlike: the asks of the greatest worth by size first."""

from treeasks.asks import look_at_asks
from treeasks.fractions import fraction, under
from treeasks.keeps import load_with, over_with
from treeasks.rules import are_ones, look_at_halves


def rate_of(ask):
    return fraction(ask[3], ask[2])


def greatest_rate_first(asks):
    order = []
    for number, ask in enumerate(asks):
        place = len(order)
        while place > 0 and under(rate_of(asks[order[place - 1]]), rate_of(ask)):
            place -= 1
        order.insert(place, number)
    return order


def keep_unlike(tree, asks):
    look_at_asks(tree, asks)
    if not are_ones(asks):
        look_at_halves(tree, asks)
    load = [0] * len(tree[0])
    prices = [(0, 1)] * len(tree[0])
    keep = []
    for number in greatest_rate_first(asks):
        over = over_with(tree, asks[number], load)
        if not over:
            keep.append(number)
            load = load_with(tree, asks[number], load)
        elif all([prices[tie - 1] == (0, 1) for tie in over]):
            prices[over[0] - 1] = rate_of(asks[number])
    return (sorted(keep), prices)
