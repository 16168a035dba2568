"""Pointings: ties that point up or down so that each ask runs one way."""

from treeasks.asks import look_at_asks
from treeasks.ways import climbed_between, way_of

TEXTS = ("up", "down")


def is_text(thing):
    # The kind first, so that nothing of another kind is asked whether it equals a text.
    return isinstance(thing, str) and thing in TEXTS


def along(tree, ask, pointing):
    # For each tie of the way, whether it points as it is gone from the ask's one end to the other.
    climbed = climbed_between(tree, ask[0], ask[1])
    return [pointing[tie - 1] == ("up" if tie in climbed else "down") for tie in way_of(tree, ask)]


def runs_one_way(tree, ask, pointing):
    found = along(tree, ask, pointing)
    return all(found) or not any(found)


def is_pointing(tree, asks, thing):
    look_at_asks(tree, asks)
    if not isinstance(thing, list) or len(thing) != len(tree[0]):
        return False
    if not all([is_text(text) for text in thing]):
        return False
    return all([runs_one_way(tree, ask, thing) for ask in asks])
