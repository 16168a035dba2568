"""Trees: tuples (parents, rooms) of two lists by ties."""

from treeasks.errors import NoTree
from treeasks.numbers import is_between

MOST_TIES = 23
MOST_ROOM = 1000000


def has_two_lists(thing):
    if not isinstance(thing, tuple) or len(thing) != 2:
        return False
    parents, rooms = thing
    if not isinstance(parents, list) or not isinstance(rooms, list):
        return False
    return len(parents) == len(rooms) and 1 <= len(parents) <= MOST_TIES


def look_at_tree(thing):
    if not has_two_lists(thing):
        raise NoTree("tree", None)
    parents, rooms = thing
    for number, parent in enumerate(parents):
        if not is_between(parent, 0, number):
            raise NoTree("parents", number)
    for number, room in enumerate(rooms):
        if not is_between(room, 1, MOST_ROOM):
            raise NoTree("rooms", number)


def depths(tree):
    look_at_tree(tree)
    found = [0]
    for parent in tree[0]:
        found.append(found[parent] + 1)
    return found


def is_place(tree, thing):
    return is_between(thing, 0, len(tree[0]))


def is_tie(tree, thing):
    return is_between(thing, 1, len(tree[0]))


def are_ends(tree, one, other):
    return is_place(tree, one) and is_place(tree, other) and one != other
