"""Changes of a tree and its asks, and what of keeps, prices and bounds is carried over them."""

from treeasks.asks import look_at_asks
from treeasks.errors import NoAsks, NoChange, NoTree
from treeasks.fractions import minus
from treeasks.keeps import look_at_keep
from treeasks.numbers import is_between
from treeasks.prices import bound_of, look_at_prices
from treeasks.trees import is_tie

# How many things stand in the tuple of each change.
LENGTHS = {"room": 3, "ask": 3, "more": 2, "less": 2, "hang": 3}


def is_change(tree, asks, thing):
    # Whether it names what is there; whether a tree and asks come of it is looked at behind this.
    if not isinstance(thing, tuple) or not thing or not isinstance(thing[0], str):
        return False
    if LENGTHS.get(thing[0]) != len(thing):
        return False
    if thing[0] == "room":
        return is_tie(tree, thing[1])
    return thing[0] in ("more", "hang") or is_between(thing[1], 0, len(asks) - 1)


def changed_tree(tree, change):
    parents, rooms = list(tree[0]), list(tree[1])
    if change[0] == "room":
        rooms[change[1] - 1] = change[2]
    if change[0] == "hang":
        parents.append(change[1])
        rooms.append(change[2])
    return (parents, rooms)


def changed_asks(asks, change):
    found = list(asks)
    if change[0] == "ask":
        found[change[1]] = change[2]
    if change[0] == "more":
        found.append(change[1])
    if change[0] == "less":
        found.pop(change[1])
    return found


def changed(tree, asks, change):
    look_at_asks(tree, asks)
    if not is_change(tree, asks, change):
        raise NoChange("there is no such change of this tree and these asks")
    there, wanted = changed_tree(tree, change), changed_asks(asks, change)
    try:
        look_at_asks(there, wanted)
    except (NoTree, NoAsks):
        raise NoChange("this change would make no tree or no asks") from None
    return (there, wanted)


def look_at_change(tree, asks, change):
    # Only by making what it makes it is seen whether a tree and asks come of it.
    changed(tree, asks, change)


def carried_keep(tree, asks, change, keep):
    look_at_change(tree, asks, change)
    look_at_keep(tree, asks, keep)
    if change[0] not in ("ask", "less"):
        return list(keep)
    left = [number for number in keep if number != change[1]]
    if change[0] == "ask":
        return left
    return [number - 1 if number > change[1] else number for number in left]


def carried_prices(tree, asks, change, prices):
    look_at_change(tree, asks, change)
    look_at_prices(tree, prices)
    return prices + [(0, 1)] if change[0] == "hang" else list(prices)


def bound_turned(tree, asks, change, prices):
    there, wanted = changed(tree, asks, change)
    carried = carried_prices(tree, asks, change, prices)
    return minus(bound_of(there, wanted, carried), bound_of(tree, asks, prices))
