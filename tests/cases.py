"""Trees and odd things that several tests use."""

import random


class Odd:
    """A thing that is like nothing else."""


def odd_things():
    """Things that are no whole number; none has a number with a point within."""
    return [None, True, False, "", "1", "tree", [], [1], [0, 1], (), (1,), (1, 2, 3), {}, {1: 2}, {1}, b"1",
            Odd(), Odd, len, range(2), (1, True), (False, 1), ("1", 2), (1, None), ([], 1), [[1], [1]], ({}, {})]


def row(ties, room=5):
    """Each place hangs from the one ahead of it."""
    return (list(range(ties)), [room] * ties)


def star(ties, room=5):
    """All places hang from the root."""
    return ([0] * ties, [room] * ties)


def bush():
    """0 has 1 and 2; 1 has 3 and 4; 2 has 5; 4 has 6 and 7; 5 has 8."""
    return ([0, 0, 1, 1, 2, 4, 4, 5], [4, 6, 3, 5, 2, 1, 7, 8])


def some_trees(how_many, most_ties=23, most_room=9, seed=1):
    chance = random.Random(seed)
    trees = []
    for turn in range(how_many):
        ties = chance.randint(1, most_ties)
        parents = [chance.randint(max(0, k - chance.choice((1, 3, 23))), k) for k in range(ties)]
        trees.append((parents, [chance.randint(1, most_room) for k in range(ties)]))
    return trees


def some_asks(tree, how_many, seed=1, most_size=3, most_worth=20):
    chance = random.Random(seed)
    places = range(len(tree[0]) + 1)
    asks = []
    for turn in range(how_many):
        one, other = chance.sample(places, 2)
        asks.append((one, other, chance.randint(1, most_size), chance.randint(1, most_worth)))
    return asks
