"""Share papers: a keep, and prices that show how great a share of the best its worth is."""

from treeasks.asks import look_at_asks
from treeasks.errors import NoKeep, NoPrices
from treeasks.fractions import times, under
from treeasks.keeps import first_over, worth_of
from treeasks.numbers import is_fraction
from treeasks.prices import bound_of, look_at_prices


def is_keep_that_fits(tree, asks, thing):
    try:
        return first_over(tree, asks, thing) is None
    except NoKeep:
        return False


def are_prices(tree, thing):
    try:
        look_at_prices(tree, thing)
    except NoPrices:
        return False
    return True


def is_share(tree, asks, thing):
    look_at_asks(tree, asks)
    if not isinstance(thing, tuple) or len(thing) != 3:
        return False
    keep, prices, often = thing
    if not is_keep_that_fits(tree, asks, keep) or not are_prices(tree, prices):
        return False
    if not is_fraction(often) or under(often, (1, 1)):
        return False
    worth = worth_of(tree, asks, keep)
    return not under(times(often, (worth, 1)), bound_of(tree, asks, prices))
