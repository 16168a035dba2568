import copy
import unittest
from fractions import Fraction

from tests.cases import Odd, bush, odd_things, ones, row, some_asks, some_trees, star, told
from treeasks.alike import keep_alike
from treeasks.errors import NoAsks, NoTree
from treeasks.keeps import worth_of
from treeasks.prices import bound_of
from treeasks.shares import is_share
from treeasks.unlike import keep_unlike
from treeasks.ways import way_between

TREE = ([0, 1, 1], [2, 3, 1])
ASKS = [(0, 2, 1, 6), (0, 3, 1, 5), (2, 3, 1, 4), (1, 2, 2, 7)]
PRICES = [(0, 1), (0, 1), (5, 1)]
# The keep is worth 18, the bound of the prices is 18.
PAPER = ([0, 1, 3], PRICES, (1, 1))


def longest(tree, asks):
    return max([len(way_between(tree, ask[0], ask[1])) for ask in asks], default=1)


class Papers(unittest.TestCase):
    def test_a_told_one(self):
        self.assertEqual(bound_of(TREE, ASKS, PRICES), (18, 1))
        self.assertIs(is_share(TREE, ASKS, PAPER), True)

    def test_by_the_rule_for_rooms_alike(self):
        for seed, tree in enumerate(some_trees(20)):
            for room in (1, 2, 3, 60):
                tree = (tree[0], [room] * len(tree[0]))
                asks = ones(some_asks(tree, seed + 4, seed))
                keep, prices, rests = keep_alike(tree, asks)
                share = (2, 1) if room < 3 else told(3 - Fraction(2, room))
                self.assertIs(is_share(tree, asks, (keep, prices, share)), True)

    def test_by_the_rule_for_rooms_unlike(self):
        for seed, tree in enumerate(some_trees(20)):
            asks = ones(some_asks(tree, seed + 4, seed))
            keep, prices = keep_unlike(tree, asks)
            self.assertIs(is_share(tree, asks, (keep, prices, (longest(tree, asks), 1))), True)
            tree = (tree[0], [2 * room + 4 for room in tree[1]])
            asks = some_asks(tree, seed + 4, seed)
            keep, prices = keep_unlike(tree, asks)
            self.assertIs(is_share(tree, asks, (keep, prices, (2 * longest(tree, asks), 1))), True)

    def test_a_bound_that_is_just_times_the_worth(self):
        # The bound is 18 by each of these keeps.
        for keep, worth in (([0, 1, 3], 18), ([0, 3], 13), ([1], 5), ([0], 6)):
            self.assertEqual(worth_of(TREE, ASKS, keep), worth)
            just = Fraction(18, worth)
            self.assertIs(is_share(TREE, ASKS, (keep, PRICES, told(just))), True)
            self.assertIs(is_share(TREE, ASKS, (keep, PRICES, told(just + Fraction(1, 10 ** 30)))), True)
            if just > 1:
                self.assertIs(is_share(TREE, ASKS, (keep, PRICES, told(just - Fraction(1, 10 ** 30)))), False)

    def test_nothing_kept(self):
        self.assertIs(is_share(TREE, [], ([], [(0, 1)] * 3, (1, 1))), True)
        self.assertIs(is_share(TREE, [], ([], [(0, 1), (1, 9), (0, 1)], (10 ** 50, 1))), False)
        self.assertIs(is_share(TREE, ASKS, ([], PRICES, (10 ** 50, 1))), False)

    def test_times_below_one_where_the_bound_is_nought(self):
        for often in ((0, 1), (1, 2), (-1, 1), (-3, 2), (10 ** 59 - 1, 10 ** 59)):
            self.assertIs(is_share(TREE, [], ([], [(0, 1)] * 3, often)), False)
        for often in ((1, 1), (3, 2), (10 ** 59 + 1, 10 ** 59)):
            self.assertIs(is_share(TREE, [], ([], [(0, 1)] * 3, often)), True)

    def test_a_keep_that_does_not_fit(self):
        self.assertIs(is_share(TREE, ASKS, ([1, 2], PRICES, (9, 1))), False)
        self.assertIs(is_share(TREE, ASKS, ([0, 1, 2, 3], PRICES, (9, 1))), False)
        self.assertIs(is_share(TREE, ASKS, ([2], PRICES, (9, 1))), True)

    def test_nothing_is_changed(self):
        things = (copy.deepcopy(TREE), list(ASKS), copy.deepcopy(PAPER))
        kept = copy.deepcopy(things)
        for turn in range(2):
            self.assertIs(is_share(*things), True)
            self.assertEqual(things, kept)


class NoPapers(unittest.TestCase):
    def none(self, thing):
        with self.subTest(thing=thing):
            self.assertIs(is_share(TREE, ASKS, thing), False)

    def test_no_keep(self):
        odd = [thing for thing in odd_things() if not isinstance(thing, list)]
        for keep in odd + [[0, 0], [1, 0], [4], [-1], [True], [0, True], [None], [[0]], ["0"], (0, 1, 3), (), 0]:
            self.none((keep, PRICES, (9, 1)))

    def test_no_prices(self):
        bad = [PRICES[:2], PRICES + [(0, 1)], tuple(PRICES), PRICES[:2] + [(10, 2)], PRICES[:2] + [(-5, 1)],
               PRICES[:2] + [5], PRICES[:2] + [(5, True)], PRICES[:2] + [[5, 1]], 0]
        for prices in odd_things() + bad:
            self.none(([0, 1, 3], prices, (9, 1)))

    def test_no_times(self):
        bad = [(0, 1), (1, 2), (-1, 1), (-9, 1), (10 ** 59 - 1, 10 ** 59), (18, 2), (2, 2), (9, 0), (-9, -1), [9, 1],
               (9,), (9, 1, 1), 9, (True, 1), (9, True), ("9", 1), Odd()]
        for often in odd_things() + bad:
            self.none(([0, 1, 3], PRICES, often))

    def test_things_of_other_kinds(self):
        for thing in odd_things() + [0, 7, (1, 1), Odd()]:
            self.none(thing)
        self.none(list(PAPER))
        self.none(PAPER[:2])
        self.none(PAPER[:1])
        self.none(PAPER + ((1, 1),))
        self.none((PAPER[1], PAPER[0], PAPER[2]))
        self.none((PAPER,))
        self.none(dict(enumerate(PAPER)))

    def test_tree_and_asks_ahead(self):
        for thing in (None, PAPER, ([9], None, None)):
            for tree in (None, ([0, 1], [1, 0])):
                for asks in (ASKS, None):
                    with self.assertRaises(NoTree):
                        is_share(tree, asks, thing)
            for asks, number in ((None, None), ([ASKS[0], (0, 0, 1, 1)], 1), ([ASKS[0]] * 31, None)):
                with self.assertRaises(NoAsks) as caught:
                    is_share(TREE, asks, thing)
                self.assertEqual(caught.exception.number, number)

    def test_other_trees(self):
        self.assertIs(is_share(row(3), ASKS[:1], ([0], [(0, 1)] * 3, (1, 1))), True)
        self.assertIs(is_share(star(3), ASKS[:1], ([0], [(0, 1)] * 2, (1, 1))), False)
        self.assertIs(is_share(bush(), [], ([], [(0, 1)] * 8, (1, 1))), True)


if __name__ == "__main__":
    unittest.main()
