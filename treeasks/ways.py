"""Ways between places, and which ties lie beneath others."""

from treeasks.errors import NoPlace
from treeasks.trees import are_ends, is_tie, look_at_tree


def look_at_ends(tree, one, other):
    look_at_tree(tree)
    if not are_ends(tree, one, other):
        raise NoPlace("a way lies between two unlike places")


def climb(tree, one, other):
    # A parent's number is less than its child's, so the greater of two places is never above the other one.
    way = []
    while one != other:
        low = max(one, other)
        way.append(low)
        one, other = min(one, other), tree[0][low - 1]
    return sorted(way), one


def way_between(tree, one, other):
    look_at_ends(tree, one, other)
    way, meeting = climb(tree, one, other)
    return way


def way_of(tree, ask):
    return way_between(tree, ask[0], ask[1])


def ways_of(tree, asks):
    return [way_of(tree, ask) for ask in asks]


def meeting_of(tree, one, other):
    look_at_ends(tree, one, other)
    way, meeting = climb(tree, one, other)
    return meeting


def tops_between(tree, one, other):
    look_at_ends(tree, one, other)
    way, meeting = climb(tree, one, other)
    return [tie for tie in way if tree[0][tie - 1] == meeting]


def climbed_between(tree, one, other):
    meeting = meeting_of(tree, one, other)
    return [] if one == meeting else way_between(tree, one, meeting)


def is_beneath(tree, one, other):
    look_at_tree(tree)
    if not is_tie(tree, one) or not is_tie(tree, other):
        raise NoPlace("there is no such tie")
    # From the parent on, so that no tie is found beneath itself.
    place = tree[0][one - 1]
    while place > other:
        place = tree[0][place - 1]
    return place == other
