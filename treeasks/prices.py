"""Prices on ties, and the bound that they show."""

from treeasks.asks import look_at_asks
from treeasks.errors import NoPrices
from treeasks.fractions import minus, sum_of, times, under
from treeasks.numbers import is_fraction
from treeasks.trees import look_at_tree
from treeasks.ways import way_of


def is_price(thing):
    return is_fraction(thing) and thing[0] >= 0


def look_at_prices(tree, thing):
    look_at_tree(tree)
    if not isinstance(thing, list):
        raise NoPrices(None)
    ties = len(tree[0])
    for number, price in enumerate(thing[:ties]):
        if not is_price(price):
            raise NoPrices(number)
    if len(thing) != ties:
        raise NoPrices(min(len(thing), ties))


def spare_of(tree, ask, weight, prices):
    # The weight is told by itself: by some rules an ask pays the prices of its way once, whatever its size.
    paid = sum_of([prices[tie - 1] for tie in way_of(tree, ask)])
    spare = minus((ask[3], 1), times((weight, 1), paid))
    return spare if under((0, 1), spare) else (0, 1)


def spares(tree, asks, prices):
    look_at_asks(tree, asks)
    look_at_prices(tree, prices)
    return [spare_of(tree, ask, ask[2], prices) for ask in asks]


def bound_of(tree, asks, prices):
    spared = spares(tree, asks, prices)
    paid = [times((room, 1), price) for room, price in zip(tree[1], prices)]
    return sum_of(paid + spared)
