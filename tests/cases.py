"""Trees, odd things, and reckonings by hand that several tests use."""

import copy
import itertools
import random
from fractions import Fraction


class Odd:
    """A thing that is like nothing else."""


class Equal:
    """A thing that equals all others."""

    def __eq__(self, other):
        return True

    def __hash__(self):
        return hash("room")


def odd_things():
    """Things that are no whole number; none has a number with a point within."""
    return [None, True, False, "", "1", "tree", [], [1], [0, 1], (), (1,), (1, 2, 3), {}, {1: 2}, {1}, b"1",
            Odd(), Odd, len, range(2), (1, True), (False, 1), ("1", 2), (1, None), ([], 1), [[1], [1]], ({}, {})]


def row(ties, room=5):
    """Each place hangs from the one ahead of it."""
    return (list(range(ties)), [room] * ties)


def star(ties, room=5):
    """All places hang from the root."""
    return ([0] * ties, [room] * ties)


def bush():
    """0 has 1 and 2; 1 has 3 and 4; 2 has 5; 4 has 6 and 7; 5 has 8."""
    return ([0, 0, 1, 1, 2, 4, 4, 5], [4, 6, 3, 5, 2, 1, 7, 8])


def some_trees(how_many, most_ties=23, most_room=9, seed=1):
    chance = random.Random(seed)
    trees = []
    for turn in range(how_many):
        ties = chance.randint(1, most_ties)
        parents = [chance.randint(max(0, k - chance.choice((1, 3, 23))), k) for k in range(ties)]
        trees.append((parents, [chance.randint(1, most_room) for k in range(ties)]))
    return trees


def some_asks(tree, how_many, seed=1, most_size=3, most_worth=20):
    chance = random.Random(seed)
    places = range(len(tree[0]) + 1)
    asks = []
    for turn in range(how_many):
        one, other = chance.sample(places, 2)
        asks.append((one, other, chance.randint(1, most_size), chance.randint(1, most_worth)))
    return asks


def big_trees(how_many, most_room, seed):
    """Trees of 23 ties."""
    chance = random.Random(seed)
    trees = []
    for turn in range(how_many):
        reach = chance.choice((1, 2, 4, 23))
        parents = [chance.randint(max(0, k - reach), k) for k in range(23)]
        trees.append((parents, [chance.randint(1, most_room) for k in range(23)]))
    return trees


def one_way_asks(tree, how_many, seed, most_worth):
    """Asks for which there is a pointing: the ties are pointed, then followed from some place."""
    chance = random.Random(seed)
    texts = [chance.choice(("up", "down")) for room in tree[1]]
    leads = {place: [] for place in range(len(tree[1]) + 1)}
    for tie, text in enumerate(texts, 1):
        start, end = (tie, tree[0][tie - 1]) if text == "up" else (tree[0][tie - 1], tie)
        leads[start].append(end)
    asks = []
    while len(asks) < how_many:
        ends = [chance.choice([place for place in leads if leads[place]])]
        while leads[ends[-1]] and (len(ends) == 1 or chance.random() < 0.8):
            ends.append(chance.choice(leads[ends[-1]]))
        one, other = chance.sample((ends[0], ends[-1]), 2)
        asks.append((one, other, 1, chance.randint(1, most_worth)))
    return asks


def ones(asks):
    """The same asks, each of size 1."""
    return [(one, other, 1, worth) for one, other, size, worth in asks]


def told(number):
    return (number.numerator, number.denominator)


def some_prices(tree, chance):
    return [told(Fraction(chance.randint(0, 20), chance.randint(1, 6))) for room in tree[1]]


def path(tree, one, other):
    """The steps from one place to the other: tuples (tie, "up" or "down")."""
    ups, downs = [], []
    while one != other:
        if one > other:
            ups.append((one, "up"))
            one = tree[0][one - 1]
        else:
            downs.append((other, "down"))
            other = tree[0][other - 1]
    return ups + downs[::-1]


def ties_of(tree, ask):
    return sorted(tie for tie, text in path(tree, ask[0], ask[1]))


def depth_of(tree, place):
    return 0 if place == 0 else 1 + depth_of(tree, tree[0][place - 1])


def meeting_depth(tree, ask):
    """The least depth of a place on the way."""
    return min(depth_of(tree, tree[0][tie - 1]) for tie in ties_of(tree, ask))


def fits(tree, asks, keep):
    for tie, room in enumerate(tree[1], 1):
        if sum(asks[number][2] for number in keep if tie in ties_of(tree, asks[number])) > room:
            return False
    return True


def all_keeps(asks):
    return [keep for many in range(len(asks) + 1) for keep in itertools.combinations(range(len(asks)), many)]


def best_worth(tree, asks):
    """Of all keeps that fit, gone through one by one."""
    best = 0
    for keep in all_keeps(asks):
        if fits(tree, asks, keep):
            best = max(best, sum(asks[number][3] for number in keep))
    return best


def reasons_in(thing):
    """How many tuples a reason tree has, each as often as it stands."""
    waiting, count = [thing], 0
    while waiting:
        one = waiting.pop()
        count += 1
        if one[0] == "split":
            waiting += one[2:]
    return count


def pile_by_hand(tree, asks, chosen, weight, part):
    """The keep, prices and rests of the chosen asks, as the rule of rooms alike tells them."""
    prices = [Fraction(0)] * len(tree[0])
    rests = [Fraction(0)] * len(asks)
    pile, keep = [], []
    for number in sorted(chosen, key=lambda number: (-meeting_depth(tree, asks[number]), number)):
        ask = asks[number]
        way = ties_of(tree, ask)
        rest = ask[3] - weight(ask) * sum(prices[tie - 1] for tie in way)
        if rest > 0:
            pile.append(number)
            rests[number] = rest
            for tie in way:
                if depth_of(tree, tie) == meeting_depth(tree, ask) + 1:
                    prices[tie - 1] += rest / part(ask)
    for number in pile[::-1]:
        if fits(tree, asks, keep + [number]):
            keep.append(number)
    return sorted(keep), [told(price) for price in prices], [told(rest) for rest in rests]


def lists_within(thing):
    found = [thing] if isinstance(thing, list) else []
    if isinstance(thing, (list, tuple)):
        for part in thing:
            found += lists_within(part)
    return found


def check_own(case, ask, *things):
    """What is handed in stays; what is told is the asker's own, and is told the same again."""
    kept = copy.deepcopy(things)
    first = ask(*things)
    again = copy.deepcopy(first)
    case.assertEqual(things, kept)
    own = lists_within(first)
    for number, one in enumerate(own):
        for other in own[:number] + lists_within(things):
            case.assertIsNot(one, other)
    for one in own:
        one.clear()
    case.assertEqual(things, kept)
    case.assertEqual(ask(*things), again)
    case.assertEqual(things, kept)
