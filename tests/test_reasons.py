import copy
import itertools
import random
import unittest
from fractions import Fraction

from tests.cases import (
    Equal, Odd, all_keeps, best_worth, fits, odd_things, reasons_in, row, some_asks, some_trees, star, ties_of)
from treeasks.errors import NoAsks, NoTree
from treeasks.reasons import lets_reasons

# Tie 2 hangs beneath tie 1.
TREE = ([0, 1], [5, 4])
ASKS = [(0, 2, 3, 10), (0, 1, 2, 7), (1, 2, 2, 4)]
FREE = ("prices", 1, [0, 0])


def by_hand(tree, asks, worth, thing, kept=(), sent=()):
    """As the document tells it, of a tree that is written as it should be."""
    if thing[0] == "split":
        number = thing[1]
        return (number not in kept + sent and by_hand(tree, asks, worth, thing[2], kept + (number,), sent)
                and by_hand(tree, asks, worth, thing[3], kept, sent + (number,)))
    loads = [sum(asks[number][2] for number in kept if tie in ties_of(tree, asks[number]))
             for tie in range(1, len(tree[0]) + 1)]
    if thing[0] == "full":
        return loads[thing[1] - 1] > tree[1][thing[1] - 1]
    text, bottom, tops = thing
    found = bottom * sum(asks[number][3] for number in kept)
    found += sum(max(0, room - load) * top for room, load, top in zip(tree[1], loads, tops))
    for number, ask in enumerate(asks):
        if number not in kept + sent:
            found += max(0, bottom * ask[3] - ask[2] * sum(tops[tie - 1] for tie in ties_of(tree, ask)))
    return Fraction(found, bottom) < worth + 1


def some_reasons(tree, asks, chance, open_asks, depth):
    """A tree that is written as it should be, whatever it shows."""
    if open_asks and depth and chance.random() < 0.8:
        number = chance.choice(open_asks)
        rest = [other for other in open_asks if other != number or chance.random() < 0.02]
        return ("split", number, some_reasons(tree, asks, chance, rest, depth - 1),
                some_reasons(tree, asks, chance, rest, depth - 1))
    if chance.random() < 0.1:
        return ("full", chance.randint(1, len(tree[0])))
    bottom = chance.choice((1, 2, 3, 7))
    return ("prices", bottom, [chance.choice((0, 0, 1, 2, 5, 9)) * bottom // 2 for room in tree[1]])


def split_all(asks, leaf):
    """All asks split, the leaves told by those that are kept."""
    def below(number, kept):
        if number == len(asks):
            return leaf(kept)
        return ("split", number, below(number + 1, kept + (number,)), below(number + 1, kept))
    return below(0, ())


def full_or_free(tree, asks):
    def leaf(kept):
        for tie in range(1, len(tree[0]) + 1):
            if sum(asks[number][2] for number in kept if tie in ties_of(tree, asks[number])) > tree[1][tie - 1]:
                return ("full", tie)
        return ("prices", 1, [0] * len(tree[0]))
    return split_all(asks, leaf)


def free_reasons(ties, many, leaf=None):
    """A tree of so many tuples, an odd number, that lets any worth by which nothing is asked of prices."""
    leaf = leaf or ("prices", 1, [0] * ties)
    chosen = [[0, None, None]]
    waiting = [(chosen[0], 0)]
    count = 1
    while count < many:
        node, depth = waiting.pop(0)
        node[1], node[2] = [depth + 1, None, None], [depth + 1, None, None]
        waiting += [(node[1], depth + 1), (node[2], depth + 1)]
        count += 2

    def made(node):
        return leaf if node[1] is None else ("split", node[0], made(node[1]), made(node[2]))
    return made(chosen[0])


class Lets(unittest.TestCase):
    def lets(self, worth, thing, good, tree=TREE, asks=ASKS):
        with self.subTest(worth=worth, thing=thing):
            self.assertIs(lets_reasons(tree, asks, worth, thing), good)

    def test_prices_alone(self):
        # 5 of tie 1 at 2, 4 of tie 2 at 1; spares 10 - 3 * 3, 7 - 2 * 2, 4 - 2 * 1.
        for worth, good in ((19, False), (20, True), (21, True)):
            self.lets(worth, ("prices", 1, [2, 1]), good)
        # 5 * 7 + 4 * 0, 2 * 10 - 3 * 7 is below nought, 14 - 14 is nought, 8: 43 parted by 2.
        for worth, good in ((20, False), (21, True)):
            self.lets(worth, ("prices", 2, [7, 0]), good)
        for worth, good in ((20, False), (21, True)):
            self.lets(worth, FREE, good)

    def test_parted_by_bottom(self):
        # One ask of size 1 and worth 10, over a room of 1 at top: the sum is top where top is 10 bottoms or more.
        asks = [(0, 1, 1, 10)]
        for bottom in (2, 3, 1000):
            for top, worth in ((10 * bottom, 10), (11 * bottom - 1, 10), (11 * bottom, 11), (12 * bottom - 1, 11)):
                self.lets(worth, ("prices", bottom, [top]), True, row(1, 1), asks)
                self.lets(worth - 1, ("prices", bottom, [top]), False, row(1, 1), asks)

    def test_split(self):
        # 0 kept: 10, one of tie 2 left at 2, and 7; 0 sent: 7 and 4.
        self.lets(19, ("split", 0, ("prices", 1, [0, 2]), FREE), True)
        self.lets(18, ("split", 0, ("prices", 1, [0, 2]), FREE), False)
        # 30, one of tie 2 left at 5, 21, and 12 - 10: 58 parted by 3.
        self.lets(19, ("split", 0, ("prices", 3, [0, 5]), FREE), True)
        self.lets(18, ("split", 0, ("prices", 3, [0, 5]), FREE), False)
        # 2 kept: 4, then 5 of tie 1 at 2, 2 of tie 2 at 1, 10 - 9 and 7 - 4; 2 sent: 10 and 7.
        self.lets(20, ("split", 2, ("prices", 1, [2, 1]), FREE), True)
        self.lets(19, ("split", 2, ("prices", 1, [2, 1]), FREE), False)
        for thing in (("split", 0, FREE, FREE), ("split", 1, FREE, FREE), ("split", 2, FREE, FREE)):
            self.lets(21, thing, True)
            self.lets(20, thing, False)

    def test_either_side_counts(self):
        over = ("prices", 1, [10, 10])
        self.lets(30, ("split", 0, FREE, over), False)
        self.lets(30, ("split", 0, over, FREE), False)
        self.lets(30, ("split", 0, FREE, FREE), True)

    def test_full(self):
        # 0 and 2 come to 5 at tie 2, whose room is 4; 0 and 1 come to just 5 at tie 1.
        both = ("split", 0, ("split", 2, ("full", 2), FREE), FREE)
        self.lets(17, both, True)
        self.lets(16, both, False)
        self.lets(99, ("split", 0, ("split", 2, ("full", 1), FREE), FREE), False)
        self.lets(99, ("split", 0, ("split", 1, ("full", 1), FREE), FREE), False)
        self.lets(99, ("split", 0, ("split", 1, ("split", 2, ("full", 1), FREE), FREE), FREE), False)
        self.lets(99, ("split", 0, ("full", 1), FREE), False)
        self.lets(99, ("split", 0, FREE, ("full", 1)), False)
        self.lets(99, ("full", 1), False)

    def test_just_the_room_is_not_full(self):
        for room, good in ((5, True), (6, False), (7, False)):
            asks = [(0, 1, 3, 1), (0, 1, 3, 1)]
            leaf = ("prices", 1, [0])
            thing = ("split", 0, ("split", 1, ("full", 1), leaf), leaf)
            self.lets(2, thing, good, row(1, room), asks)

    def test_sent_ones_take_no_room(self):
        asks = [(0, 1, 3, 1)] * 2
        leaf = ("prices", 1, [0])
        self.lets(9, ("split", 0, ("split", 1, leaf, ("full", 1)), leaf), False, row(1, 5), asks)
        self.lets(9, ("split", 0, leaf, ("split", 1, ("full", 1), leaf)), False, row(1, 5), asks)

    def test_over_full_leaves_no_room_below_nought(self):
        # Kept ones come to 6 over a room of 5; at top 9 what is left counts 0, not -9.
        asks = [(0, 1, 3, 10)] * 2
        thing = ("split", 0, ("split", 1, ("prices", 1, [9]), ("prices", 1, [0])), ("prices", 1, [0]))
        self.lets(20, thing, True, row(1, 5), asks)
        self.lets(19, thing, False, row(1, 5), asks)

    def test_split_once_on_a_way(self):
        again = ("split", 1, FREE, FREE)
        self.lets(99, ("split", 0, again, again), True)
        self.lets(99, ("split", 1, again, FREE), False)
        self.lets(99, ("split", 1, FREE, again), False)
        self.lets(99, ("split", 1, ("split", 0, again, FREE), FREE), False)
        self.lets(99, ("split", 1, ("split", 0, FREE, again), FREE), False)

    def test_no_ask_and_no_tie(self):
        for number in (-1, 3, 30, -3, 10 ** 59, True, False, None, "0", (0,), [0], Odd()):
            self.lets(99, ("split", number, FREE, FREE), False)
        self.lets(99, ("split", 0, ("prices", 1, [0]), ("prices", 1, [0])), False, row(1), [])
        asks = [(0, 2, 9, 1)]
        for tie, good in ((1, True), (2, True), (0, False), (3, False), (-1, False), (True, False), (None, False),
                          ("1", False), ([1], False), (Odd(), False), (10 ** 59, False)):
            self.lets(99, ("split", 0, ("full", tie), FREE), good, TREE, asks)

    def test_bottoms(self):
        for bottom in (1, 2, 10 ** 9 - 1, 10 ** 9):
            self.lets(21, ("prices", bottom, [0, 0]), True)
            self.lets(20, ("prices", bottom, [0, 0]), False)
        for bottom in (0, -1, 10 ** 9 + 1, 10 ** 59, True, None, "1", (1, 1), [1], Odd()):
            self.lets(99, ("prices", bottom, [0, 0]), False)

    def test_tops(self):
        much = 9 * 10 ** 12
        for top in (0, 1, 10 ** 12 - 1, 10 ** 12):
            self.lets(much, ("prices", 1, [top, 0]), True)
            self.lets(much, ("prices", 1, [0, top]), True)
        for top in (-1, -10 ** 59, 10 ** 12 + 1, 10 ** 59, True, False, None, "0", (0, 1), [0], Odd()):
            self.lets(10 ** 59, ("prices", 1, [top, 0]), False)
            self.lets(10 ** 59, ("prices", 1, [0, top]), False)
        for tops in ([], [0], [0, 0, 0], (0, 0), {0: 0, 1: 0}, "00", None, 0, True):
            self.lets(99, ("prices", 1, tops), False)

    def test_no_asks(self):
        self.lets(0, FREE, True, TREE, [])
        self.lets(0, ("prices", 1, [0, 1]), False, TREE, [])
        self.lets(4, ("prices", 1, [0, 1]), True, TREE, [])
        self.lets(0, ("prices", 5, [0, 1]), True, TREE, [])
        self.lets(99, ("full", 1), False, TREE, [])

    def test_forms(self):
        for thing in (list(FREE), ["full", 1], ["split", 0, FREE, FREE], ("prices", 1), ("prices", 1, [0, 0], 0),
                      ("prices", [0, 0], 1), ("split", 0, FREE), ("split", 0, FREE, FREE, FREE), ("split", 0),
                      ("Prices", 1, [0, 0]), ("price", 1, [0, 0]), ("", 1, [0, 0]), (1, 1, [0, 0]), (True, 1, [0, 0]),
                      (None, 1, [0, 0]), (("prices",), 1, [0, 0]), (["prices"], 1, [0, 0]), (b"prices", 1, [0, 0]),
                      (Odd(), 1, [0, 0]), ({}, 1, [0, 0]), ("full", 1, [0, 0]), ("prices", 0, FREE, FREE), FREE + FREE,
                      (FREE,), {"prices": 1}, "prices", ()):
            self.lets(99, thing, False)
            self.lets(99, ("split", 0, thing, FREE), False)
            self.lets(99, ("split", 0, FREE, thing), False)

    def test_things_of_other_kinds(self):
        for thing in odd_things() + [Odd(), 0, 1, 10 ** 59]:
            self.lets(99, thing, False)
            self.lets(99, ("split", 0, thing, FREE), False)
            self.lets(99, ("split", 0, FREE, thing), False)
            self.lets(99, ("split", 0, thing, thing), False)

    def test_things_that_equal_all_others(self):
        equal = Equal()
        self.assertEqual(equal, "prices")
        for thing in (equal, (equal, 1, [0, 0]), ("prices", equal, [0, 0]), ("prices", 1, equal),
                      ("prices", 1, [0, equal]), (equal, 1), ("full", equal), (equal, 0, FREE, FREE), ("split", equal, FREE, FREE)):
            self.lets(99, thing, False)

    def test_by_hand(self):
        chance = random.Random(4)
        good = 0
        for seed, tree in enumerate([TREE, star(3, 2), row(4, 3)] + some_trees(60, 5, 4)):
            asks = some_asks(tree, 1 + seed % 6, seed)
            all_worth = sum(ask[3] for ask in asks)
            for turn in range(20):
                thing = some_reasons(tree, asks, chance, list(range(len(asks))), 4)
                for worth in (0, all_worth // 2, all_worth - 1, all_worth, 3 * all_worth):
                    told = by_hand(tree, asks, worth, thing)
                    good += told
                    self.lets(worth, thing, told, tree, asks)
        self.assertGreater(good, 500)

    def test_where_one_is_let_by_no_keep_that_fits_is_worth_more(self):
        chance = random.Random(9)
        for seed, tree in enumerate([star(3, 1), row(4, 2)] + some_trees(40, 5, 3, seed=3)):
            asks = some_asks(tree, 1 + seed % 6, seed)
            best = best_worth(tree, asks)
            for turn in range(30):
                thing = some_reasons(tree, asks, chance, list(range(len(asks))), 5)
                for worth in range(max(0, best - 3), best):
                    self.lets(worth, thing, False, tree, asks)

    def test_all_split(self):
        for seed, tree in enumerate([star(3, 2), row(3, 2)] + some_trees(20, 6, 3)):
            asks = some_asks(tree, seed % 7, seed)
            best = best_worth(tree, asks)
            thing = full_or_free(tree, asks)
            self.assertEqual(reasons_in(thing), 2 ** (len(asks) + 1) - 1)
            self.lets(best, thing, True, tree, asks)
            if best:
                self.lets(best - 1, thing, False, tree, asks)


class Many(unittest.TestCase):
    tree = row(2, 100)
    asks = [(0, 1, 1, 1)] * 30

    def test_counted(self):
        for many in (1, 3, 5, 7, 2047, 3997, 3999):
            thing = free_reasons(2, many)
            self.assertEqual(reasons_in(thing), many)
            self.assertIs(lets_reasons(self.tree, self.asks, 30, thing), True)
            self.assertIs(lets_reasons(self.tree, self.asks, 29, thing), False)

    def test_too_many(self):
        for many in (4001, 4003, 9001):
            thing = free_reasons(2, many)
            self.assertEqual(reasons_in(thing), many)
            self.assertIs(lets_reasons(self.tree, self.asks, 30, thing), False)
            self.assertIs(lets_reasons(self.tree, self.asks, 10 ** 59, thing), False)

    def test_both_sides_are_counted(self):
        # Each split has two below it, so the number of tuples is odd: 3999 is the most that are let by.
        self.assertIs(lets_reasons(self.tree, self.asks, 30, ("split", 29, free_reasons(2, 3997), FREE)), True)
        self.assertIs(lets_reasons(self.tree, self.asks, 30, ("split", 29, free_reasons(2, 3999), FREE)), False)
        self.assertIs(lets_reasons(self.tree, self.asks, 30, ("split", 29, FREE, free_reasons(2, 3997))), True)
        self.assertIs(lets_reasons(self.tree, self.asks, 30, ("split", 29, FREE, free_reasons(2, 3999))), False)

    def test_one_tuple_in_many_places(self):
        thing = FREE
        for number in range(30):
            thing = ("split", number, thing, thing)
            many = 2 ** (number + 2) - 1
            self.assertIs(lets_reasons(self.tree, self.asks, 30, thing), many <= 4000)

    def test_thousands_in_depth(self):
        for side in (0, 1):
            for numbers in ((0, 0), (0, 1), (29, 3)):
                for many in (31, 1000, 1999, 5000, 100000):
                    thing = FREE
                    for turn in range(many):
                        below = (thing, FREE) if side == 0 else (FREE, thing)
                        thing = ("split", numbers[turn % 2]) + below
                    self.assertIs(lets_reasons(self.tree, self.asks, 30, thing), False)

    def test_all_asks_in_depth(self):
        thing = FREE
        for number in range(30):
            thing = ("split", number, thing, FREE)
        self.assertIs(lets_reasons(self.tree, self.asks, 30, thing), True)
        self.assertIs(lets_reasons(self.tree, self.asks, 29, thing), False)
        self.assertIs(lets_reasons(self.tree, self.asks, 30, ("split", 0, thing, FREE)), False)


class Around(unittest.TestCase):
    def test_tree_and_asks_ahead(self):
        for thing in (None, FREE, [], ("full", 1)):
            for asks in (ASKS, None):
                with self.assertRaises(NoTree) as caught:
                    lets_reasons(([0, 2], [1, 1]), asks, 1, thing)
                self.assertEqual((caught.exception.part, caught.exception.number), ("parents", 1))
            for asks, number in ((None, None), (tuple(ASKS), None), (ASKS + [(2, 2, 1, 1)], 3), (ASKS * 11, None)):
                with self.assertRaises(NoAsks) as caught:
                    lets_reasons(TREE, asks, 1, thing)
                self.assertEqual(caught.exception.number, number)

    def test_nothing_is_changed(self):
        things = (TREE, ASKS, 19, ("split", 0, ("prices", 1, [0, 2]), FREE))
        kept = copy.deepcopy(things)
        for turn in range(2):
            self.assertIs(lets_reasons(*things), True)
            self.assertEqual(things, kept)

    def test_small_ones_wholly(self):
        # Every keep is on one side of each split: what all leaves say together is said of every keep.
        asks = [(0, 1, 2, 3), (1, 2, 1, 4)]
        tree = ([0, 1], [1, 1])
        for keep in all_keeps(asks):
            if fits(tree, asks, keep):
                self.assertLessEqual(sum(asks[number][3] for number in keep), 4)
        self.assertIs(lets_reasons(tree, asks, 4, full_or_free(tree, asks)), True)
        for first, second in itertools.product((("full", 1), FREE), repeat=2):
            thing = ("split", 0, first, second)
            self.assertIs(lets_reasons(tree, asks, 4, thing), first != FREE and second == FREE)


if __name__ == "__main__":
    unittest.main()
