"""Odd rings of ties, each of which shows that there is no pointing, and the search for either."""

from treeasks.asks import look_at_asks
from treeasks.numbers import is_between
from treeasks.trees import is_tie
from treeasks.ways import is_beneath, way_of

LEAST_RING = 3
MOST_RING = 61


def are_apart(tree, one, other):
    return not is_beneath(tree, one, other) and not is_beneath(tree, other, one)


def is_link(tree, asks, thing):
    if not isinstance(thing, tuple) or len(thing) != 2:
        return False
    return is_tie(tree, thing[0]) and is_between(thing[1], 0, len(asks) - 1)


def are_joined(tree, asks, one, other, number):
    way = way_of(tree, asks[number])
    return one != other and one in way and other in way


def is_ring(tree, asks, thing):
    look_at_asks(tree, asks)
    if not isinstance(thing, list) or not LEAST_RING <= len(thing) <= MOST_RING:
        return False
    if not all([is_link(tree, asks, link) for link in thing]):
        return False
    turns = 0
    for link, following in zip(thing, thing[1:] + thing[:1]):
        if not are_joined(tree, asks, link[0], following[0], link[1]):
            return False
        if are_apart(tree, link[0], following[0]):
            turns += 1
    return turns % 2 == 1


def links_of(tree, asks):
    # For each tie the ties beside it on some way, with the ask; neighbours are enough to hold a way together.
    found = [[] for parent in tree[0]]
    for number, ask in enumerate(asks):
        way = way_of(tree, ask)
        for one, other in zip(way, way[1:]):
            found[one - 1].append((other, number))
            found[other - 1].append((one, number))
    return found


def reach_from(first, links, came):
    came[first] = None
    waiting = [first]
    while waiting:
        tie = waiting.pop()
        for other, number in links[tie - 1]:
            if other not in came:
                came[other] = (tie, number)
                waiting.append(other)


def path_back(came, tie):
    path = []
    while came[tie] is not None:
        ahead, number = came[tie]
        path.append((tie, number))
        tie = ahead
    return path


def text_of(tree, came, tie):
    turns = [1 for low, number in path_back(came, tie) if are_apart(tree, low, came[low][0])]
    return "up" if len(turns) % 2 == 0 else "down"


def ring_through(came, one, other, closing):
    there = path_back(came, one)
    back = path_back(came, other)
    # What both paths share would be gone there and back for nothing.
    while there and back and there[-1] == back[-1]:
        there.pop()
        back.pop()
    return there + [(came[tie][0], number) for tie, number in reversed(back)] + [(other, closing)]


def first_clash(tree, links, texts):
    for place, beside in enumerate(links):
        for other, number in beside:
            if (texts[place] != texts[other - 1]) != are_apart(tree, place + 1, other):
                return (place + 1, other, number)
    return None


def pointed(tree, asks):
    look_at_asks(tree, asks)
    links = links_of(tree, asks)
    ties = list(range(1, len(tree[0]) + 1))
    came = {}
    for tie in ties:
        if tie not in came:
            reach_from(tie, links, came)
    texts = [text_of(tree, came, tie) for tie in ties]
    clash = first_clash(tree, links, texts)
    if clash is None:
        return ("pointed", texts)
    one, other, number = clash
    return ("ring", ring_through(came, one, other, number))
