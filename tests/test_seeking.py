import random
import unittest

from tests.cases import (
    best_worth, big_trees, bush, check_own, fits, lists_within, one_way_asks, ones, reasons_in, row, some_asks,
    some_trees, star)
from treeasks.best import best_keep
from treeasks.errors import NoAsks, NoTree
from treeasks.keeps import look_at_keep, worth_of
from treeasks.reasons import lets_reasons
from treeasks.rings import pointed
from treeasks.seeking import seek

TRIANGLE = [(1, 2, 1, 1), (2, 3, 1, 1), (3, 1, 1, 1)]


class Seeking(unittest.TestCase):
    def checked(self, tree, asks, most):
        told = seek(tree, asks, most)
        self.assertIsInstance(told, tuple)
        self.assertIn((told[0], len(told)), (("best", 3), ("open", 2)))
        look_at_keep(tree, asks, told[1])
        self.assertTrue(fits(tree, asks, told[1]))
        if told[0] == "best":
            self.assertLessEqual(reasons_in(told[2]), most)
            worth = worth_of(tree, asks, told[1])
            self.assertIs(lets_reasons(tree, asks, worth, told[2]), True)
            if worth:
                self.assertIs(lets_reasons(tree, asks, worth - 1, told[2]), False)
        return told

    def test_no_asks(self):
        for tree in (row(1), row(23), star(23), bush()):
            for most in (1, 2, 4000):
                told = self.checked(tree, [], most)
                self.assertEqual(told[:2], ("best", []))

    def test_one_ask(self):
        for room, size, keep in ((5, 5, [0]), (5, 6, []), (1, 1, [0]), (1, 2, []), (10 ** 6, 10 ** 6, [0])):
            for worth in (1, 10 ** 12):
                for most in (3, 4, 4000):
                    told = self.checked(row(1, room), [(0, 1, size, worth)], most)
                    self.assertEqual(told[:2], ("best", keep))

    def test_just_enough_and_just_below(self):
        opens = 0
        for seed, tree in enumerate([star(4, 3), row(4, 3), bush()] + some_trees(60, 8, 4)):
            asks = some_asks(tree, seed % 8, seed, 4)
            enough = 2 ** (len(asks) + 1) - 1
            best = best_worth(tree, asks)
            for most in (enough, enough + 1, 4000):
                told = self.checked(tree, asks, most)
                self.assertEqual(told[0], "best")
                self.assertEqual(worth_of(tree, asks, told[1]), best)
            for most in sorted({1, 2, 3, enough - 1} - {0}):
                told = self.checked(tree, asks, most)
                if told[0] == "best":
                    self.assertEqual(worth_of(tree, asks, told[1]), best)
                opens += told[0] == "open"
        self.assertGreater(opens, 20)

    def test_ten_asks_are_never_open(self):
        chance = random.Random(8)
        for seed, tree in enumerate([star(23, 7), row(23, 7)] + some_trees(60, 23, 12, seed=6)):
            size, worth = chance.choice(((2, 3), (9, 20), (10 ** 6, 10 ** 12), (4, 10 ** 12), (7, 1)))
            if size > 100:
                tree = (tree[0], [chance.randint(1, 10 ** 6) for room in tree[1]])
            asks = some_asks(tree, 10, seed, size, worth)
            for most in (2047, 4000):
                self.assertEqual(self.checked(tree, asks, most)[0], "best")

    def test_hard_ones_of_ten_asks(self):
        # Sizes and worths alike, so that prices say little.
        for size in (2, 3, 5):
            for room in (size - 1, 2 * size - 1, 4 * size - 1, 10 * size - 1, 10 * size):
                for tree in (row(1, room), row(2, room), star(2, room)):
                    asks = [(0, len(tree[0]), size, 10 ** 12)] * 10
                    told = self.checked(tree, asks, 2047)
                    self.assertEqual((told[0], len(told[1])), ("best", min(10, room // size)))
        tree = star(5, 5)
        asks = [(one, other, 3, 10) for one in range(1, 6) for other in range(1, one)]
        told = self.checked(tree, asks, 2047)
        self.assertEqual((told[0], worth_of(tree, asks, told[1])), ("best", 20))

    def test_no_keep_that_fits_is_worth_more(self):
        for seed, tree in enumerate([star(3, 1), row(3, 2)] + some_trees(40, 6, 4, seed=2)):
            asks = some_asks(tree, 8, seed, 3)
            told = self.checked(tree, asks, 511)
            self.assertEqual(told[0], "best")
            self.assertEqual(worth_of(tree, asks, told[1]), best_worth(tree, asks))

    def test_rings(self):
        told = self.checked(star(3, 1), TRIANGLE, 15)
        self.assertEqual((told[0], len(told[1])), ("best", 1))
        told = self.checked(star(3, 1), TRIANGLE, 1)
        self.assertEqual((told[0], len(told[1])), ("open", 1))

    def test_pointed_ones_are_never_open(self):
        for most_room in (1, 3, 12):
            for most_worth in (1, 7, 10 ** 12):
                for seed, tree in enumerate(big_trees(6, most_room, most_room)):
                    asks = one_way_asks(tree, 30, seed, most_worth)
                    self.assertEqual(pointed(tree, asks)[0], "pointed")
                    for most in (1, 4000):
                        told = self.checked(tree, asks, most)
                        self.assertEqual(told[0], "best")
                        self.assertEqual(worth_of(tree, asks, told[1]), worth_of(tree, asks, best_keep(tree, asks)[0]))

    def test_pointed_ones_with_great_worths(self):
        # Prices must not be greater than a top may be.
        for tree in (row(23, 1), row(23, 2), (list(range(23)), [1 + k % 3 for k in range(23)])):
            for seed in range(12):
                asks = [(one, other, 1, 10 ** 12 - worth % 5)
                        for one, other, size, worth in some_asks(tree, 30, seed)]
                self.assertEqual(self.checked(tree, asks, 1)[0], "best")

    def test_sizes_over_pointed_ties_may_need_splits(self):
        told = self.checked(row(1, 4), [(0, 1, 3, 5), (0, 1, 3, 5)], 7)
        self.assertEqual((told[0], len(told[1])), ("best", 1))

    def test_23_ties_and_30_asks(self):
        for seed, tree in enumerate(big_trees(8, 9, 1)):
            for size, worth in ((3, 20), (5, 10 ** 12), (1, 9)):
                for most in (1, 2, 50, 4000):
                    self.checked(tree, some_asks(tree, 30, seed, size, worth), most)

    def test_greatest_rates(self):
        # The greatest worth by size there is, beside one that is no whole number.
        for worth in (10 ** 12 - 1, 10 ** 12):
            asks = [(0, 1, 1, worth), (0, 1, 1, worth), (1, 2, 2, 5)]
            told = self.checked(row(2, 1), asks, 15)
            self.assertEqual((told[0], worth_of(row(2, 1), asks, told[1])), ("best", worth))

    def test_great_sizes(self):
        # Sizes with no common part: rates that can't all be told over one bottom.
        sizes = (999983, 999979, 999961, 999959, 999953, 999931, 999917, 999907)
        for room in (10 ** 6, 999999, 999984, 999960):
            asks = [(k, k + 1, size, 3 + k) for k, size in enumerate(sizes)]
            asks += [(0, 8, 10, 10 ** 12), (0, 4, 77, 5)]
            self.assertEqual(self.checked(row(8, room), asks, 2047)[0], "best")
            asks = [(k, k + 1, size, 10 ** 12 - k) for k, size in enumerate(sizes)] + [(0, 8, 10, 7), (0, 4, 77, 5)]
            self.assertEqual(self.checked(row(8, room), asks, 2047)[0], "best")


class Around(unittest.TestCase):
    def test_tree_then_asks(self):
        for asks in (None, [], TRIANGLE):
            with self.assertRaises(NoTree) as caught:
                seek(([0, 1], [1, 0]), asks, 1)
            self.assertEqual((caught.exception.part, caught.exception.number), ("rooms", 1))
        for asks, number in ((None, None), (tuple(TRIANGLE), None), (TRIANGLE + [(2, 2, 1, 1)], 3),
                             (TRIANGLE * 11, None)):
            with self.assertRaises(NoAsks) as caught:
                seek(star(3), asks, 1)
            self.assertEqual(caught.exception.number, number)

    def test_nothing_is_changed_and_lists_are_new(self):
        asks = some_asks(bush(), 20, most_size=4)
        self.assertGreater(len(lists_within(seek(bush(), asks, 4000))), 3)
        check_own(self, seek, bush(), asks, 4000)
        check_own(self, seek, bush(), asks, 2)
        check_own(self, seek, row(5, 2), ones(some_asks(row(5), 9)), 1)
        check_own(self, seek, row(5, 2), [], 1)


if __name__ == "__main__":
    unittest.main()
