"""Trees of reasons: tuples that show that no keep that fits is worth more than is told."""

from treeasks.asks import look_at_asks
from treeasks.keeps import lay_on
from treeasks.numbers import is_between
from treeasks.trees import is_tie
from treeasks.ways import ways_of

MOST_REASONS = 4000
MOST_BOTTOM = 1000000000
MOST_TOP = 1000000000000

# Fates are, by asks, what was split on the way to a tuple: True of an ask that is kept there, False of one that is
# sent, None of one that isn't split. Ways are those of the asks, found once for all tuples.


def with_fate(fates, number, fate):
    found = list(fates)
    found[number] = fate
    return found


def kept_load(tree, asks, ways, fates):
    load = [0] * len(tree[0])
    for ask, way, fate in zip(asks, ways, fates):
        if fate is True:
            lay_on(ask, way, load)
    return load


def priced_sum(tree, asks, ways, fates, bottom, tops):
    found = 0
    for room, load, top in zip(tree[1], kept_load(tree, asks, ways, fates), tops):
        found += max(0, room - load) * top
    for ask, way, fate in zip(asks, ways, fates):
        if fate is True:
            found += bottom * ask[3]
        if fate is None:
            found += max(0, bottom * ask[3] - ask[2] * sum([tops[tie - 1] for tie in way]))
    return found


def is_reason(thing, text, many):
    # The kind first, so that nothing of another kind is asked whether it equals a text.
    return isinstance(thing, tuple) and len(thing) == many and isinstance(thing[0], str) and thing[0] == text


def is_split(thing, fates):
    return is_reason(thing, "split", 4) and is_between(thing[1], 0, len(fates) - 1) and fates[thing[1]] is None


def are_tops(tree, thing):
    if not isinstance(thing, list) or len(thing) != len(tree[0]):
        return False
    return all([is_between(top, 0, MOST_TOP) for top in thing])


def is_full(tree, asks, ways, fates, thing):
    if not is_reason(thing, "full", 2) or not is_tie(tree, thing[1]):
        return False
    return kept_load(tree, asks, ways, fates)[thing[1] - 1] > tree[1][thing[1] - 1]


def is_priced(tree, asks, ways, fates, worth, thing):
    if not is_reason(thing, "prices", 3) or not is_between(thing[1], 1, MOST_BOTTOM) or not are_tops(tree, thing[2]):
        return False
    return priced_sum(tree, asks, ways, fates, thing[1], thing[2]) // thing[1] <= worth


def lets_reasons(tree, asks, worth, thing):
    look_at_asks(tree, asks)
    ways = ways_of(tree, asks)
    # Walked by a list, not by calls within calls: what is handed in may be deeper than these can go.
    waiting = [(thing, [None] * len(asks))]
    walked = 0
    while waiting:
        one, fates = waiting.pop()
        walked += 1
        if walked > MOST_REASONS:
            return False
        if is_split(one, fates):
            waiting.append((one[3], with_fate(fates, one[1], False)))
            waiting.append((one[2], with_fate(fates, one[1], True)))
        elif not is_full(tree, asks, ways, fates, one) and not is_priced(tree, asks, ways, fates, worth, one):
            return False
    return True
