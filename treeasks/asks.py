"""Asks: a list of tuples (one, other, size, worth) on a tree."""

from treeasks.errors import NoAsks
from treeasks.numbers import is_between
from treeasks.trees import are_ends, look_at_tree

MOST_ASKS = 30
MOST_SIZE = 1000000
MOST_WORTH = 1000000000000


def is_ask(tree, thing):
    if not isinstance(thing, tuple) or len(thing) != 4:
        return False
    one, other, size, worth = thing
    return are_ends(tree, one, other) and is_between(size, 1, MOST_SIZE) and is_between(worth, 1, MOST_WORTH)


def look_at_asks(tree, thing):
    look_at_tree(tree)
    if not isinstance(thing, list) or len(thing) > MOST_ASKS:
        raise NoAsks(None)
    for number, ask in enumerate(thing):
        if not is_ask(tree, ask):
            raise NoAsks(number)
