"""What several rules share: what they want of rooms and sizes, and the pile from which asks are kept."""

from treeasks.errors import NoShare
from treeasks.fractions import parted, plus
from treeasks.keeps import load_with, over_with
from treeasks.prices import spare_of
from treeasks.trees import depths
from treeasks.ways import meeting_of, tops_between, way_of

MOST_COMMON_ROOM = 60


def common_room(tree):
    room = tree[1][0]
    if room > MOST_COMMON_ROOM or tree[1] != [room] * len(tree[1]):
        raise NoShare(None)
    return room


def are_ones(asks):
    return all([ask[2] == 1 for ask in asks])


def look_at_ones(asks):
    for number, ask in enumerate(asks):
        if ask[2] != 1:
            raise NoShare(number)


def look_at_most(asks, most):
    for number, ask in enumerate(asks):
        if ask[2] > most:
            raise NoShare(number)


def is_above_half(tree, ask):
    return any([2 * ask[2] > tree[1][tie - 1] for tie in way_of(tree, ask)])


def look_at_halves(tree, asks):
    for number, ask in enumerate(asks):
        if is_above_half(tree, ask):
            raise NoShare(number)


def deepest_first(tree, asks):
    deep = depths(tree)
    met = [deep[meeting_of(tree, ask[0], ask[1])] for ask in asks]
    # Sorting leaves those of one depth by numbers.
    return sorted(range(len(asks)), key=lambda number: -met[number])


def raise_tops(tree, ask, prices, step):
    for tie in tops_between(tree, ask[0], ask[1]):
        prices[tie - 1] = plus(prices[tie - 1], step)


def pile_up(tree, asks, terms):
    # Terms are, for each ask, how often it pays the prices of its way and by what its rest is parted;
    # None for an ask that isn't gone through.
    prices = [(0, 1)] * len(tree[0])
    rests = [(0, 1)] * len(asks)
    pile = []
    for number in deepest_first(tree, asks):
        if terms[number] is not None:
            weight, part = terms[number]
            rests[number] = spare_of(tree, asks[number], weight, prices)
            if rests[number] != (0, 1):
                pile.append(number)
                raise_tops(tree, asks[number], prices, parted(rests[number], (part, 1)))
    return (pile, prices, rests)


def keep_from_last(tree, asks, pile):
    load = [0] * len(tree[0])
    keep = []
    for number in reversed(pile):
        if not over_with(tree, asks[number], load):
            keep.append(number)
            load = load_with(tree, asks[number], load)
    return sorted(keep)
