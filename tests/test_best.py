import unittest

from tests.cases import (
    best_worth, big_trees, bush, check_own, fits, one_way_asks, ones, row, some_asks, some_trees, star)
from treeasks.best import best_keep
from treeasks.errors import NoAsks, NoPointing, NoShare, NoTree
from treeasks.keeps import look_at_keep, worth_of
from treeasks.numbers import is_whole
from treeasks.prices import bound_of, look_at_prices
from treeasks.rings import is_ring, pointed

TRIANGLE = [(1, 2, 1, 1), (2, 3, 1, 1), (3, 1, 1, 1)]


class Best(unittest.TestCase):
    def checked(self, tree, asks):
        told = best_keep(tree, asks)
        self.assertIsInstance(told, tuple)
        keep, prices = told
        look_at_keep(tree, asks, keep)
        look_at_prices(tree, prices)
        self.assertTrue(fits(tree, asks, keep))
        for top, bottom in prices:
            self.assertTrue(is_whole(top) and bottom == 1)
        worth = worth_of(tree, asks, keep)
        self.assertEqual(bound_of(tree, asks, prices), (worth, 1))
        return worth

    def test_told_ones(self):
        tree = (list(range(3)), [1, 2, 1])
        asks = [(0, 3, 1, 10), (0, 1, 1, 4), (1, 2, 1, 5), (2, 3, 1, 4), (3, 1, 1, 3)]
        self.assertEqual(self.checked(tree, asks), 15)
        self.assertEqual(best_keep(tree, asks)[0], [0, 2])
        self.assertEqual(best_keep(tree, asks[1:])[0], [0, 1, 2])
        # A later ask drives out two kept ones and brings back one that was sent.
        tree, asks = row(2, 1), [(0, 1, 1, 5), (1, 2, 1, 5), (0, 2, 1, 9), (1, 2, 1, 6), (0, 2, 1, 13)]
        self.assertEqual([self.checked(tree, asks[:many]) for many in range(6)], [0, 5, 10, 10, 11, 13])
        self.assertEqual(best_keep(tree, asks)[0], [4])

    def test_no_asks(self):
        for tree in (row(1), row(23), star(23), bush()):
            self.assertEqual(best_keep(tree, []), ([], [(0, 1)] * len(tree[0])))

    def test_one_ask(self):
        for ask in ((0, 1, 1, 10 ** 12), (1, 0, 1, 1)):
            self.assertEqual(self.checked(row(1, 1), [ask]), ask[3])
            self.assertEqual(best_keep(row(1, 1), [ask])[0], [0])

    def test_rooms_above_the_number_of_asks(self):
        for tree in (row(23, 31), row(23, 10 ** 6)):
            asks = ones(some_asks(tree, 30, most_worth=10 ** 12))
            self.assertEqual(best_keep(tree, asks), (list(range(30)), [(0, 1)] * 23))

    def test_rooms_that_are_just_the_number_of_asks(self):
        asks = [(0, 1, 1, 3 + number) for number in range(30)]
        self.assertEqual(self.checked(row(1, 30), asks), sum(ask[3] for ask in asks))
        self.assertEqual(self.checked(row(1, 29), asks), sum(ask[3] for ask in asks) - 3)
        self.assertEqual(self.checked(row(1, 1), asks), 32)

    def test_no_keep_that_fits_is_worth_more(self):
        seen = 0
        for seed, tree in enumerate([row(4, 1), star(5, 1), bush()] + some_trees(60, 6, 3)):
            for asks in (ones(some_asks(tree, 7, seed, most_worth=9)), one_way_asks(tree, 8, seed, 9)):
                if pointed(tree, asks)[0] == "pointed":
                    seen += 1
                    self.assertEqual(self.checked(tree, asks), best_worth(tree, asks))
        self.assertGreater(seen, 70)

    def test_23_ties_and_30_asks(self):
        for most_room in (1, 3, 12):
            for most_worth in (1, 7, 10 ** 12):
                for seed, tree in enumerate(big_trees(12, most_room, most_room)):
                    asks = one_way_asks(tree, 30, seed, most_worth)
                    self.assertEqual(pointed(tree, asks)[0], "pointed")
                    self.checked(tree, asks)
        for most_room in (1, 2, 5):
            tree = (list(range(23)), big_trees(1, most_room, 9)[0][1])
            self.checked(tree, ones(some_asks(tree, 30, most_worth=10 ** 12)))

    def test_stars_are_matched(self):
        # One end even, the other odd: each tie is the end of one kept ask at most.
        asks = [(one, other, 1, one * other % 7 + 1) for one in (2, 4, 6) for other in (1, 3, 5)]
        self.assertEqual(self.checked(star(6, 1), asks), best_worth(star(6, 1), asks))

    def test_nothing_is_changed_and_lists_are_new(self):
        check_own(self, best_keep, row(5, 2), ones(some_asks(row(5), 9)))
        check_own(self, best_keep, row(5, 2), [])


class Refusals(unittest.TestCase):
    def no_share(self, tree, asks, number):
        with self.subTest(asks=asks):
            with self.assertRaises(NoShare) as caught:
                best_keep(tree, asks)
            self.assertEqual(caught.exception.number, number)

    def test_sizes(self):
        one, two = (0, 1, 1, 1), (0, 1, 2, 1)
        self.no_share(row(3, 9), [two], 0)
        self.no_share(row(3, 9), [one, one, (0, 1, 10 ** 6, 1), two], 2)
        self.no_share(row(3, 9), [one] * 29 + [two], 29)

    def test_sizes_ahead_of_a_ring(self):
        self.no_share(star(3), TRIANGLE + [(0, 1, 2, 1)], 3)
        self.no_share(star(3), [TRIANGLE[0], (2, 3, 2, 1), TRIANGLE[2]], 1)

    def test_no_pointing(self):
        seen = 0
        for seed, tree in enumerate([star(3)] + some_trees(60)):
            asks = TRIANGLE if seed == 0 else ones(some_asks(tree, seed % 31, seed))
            if pointed(tree, asks)[0] == "ring":
                seen += 1
                with self.assertRaises(NoPointing) as caught:
                    best_keep(tree, asks)
                self.assertIs(is_ring(tree, asks, caught.exception.ring), True)
                caught.exception.ring.clear()
                with self.assertRaises(NoPointing) as again:
                    best_keep(tree, asks)
                self.assertIs(is_ring(tree, asks, again.exception.ring), True)
        self.assertGreater(seen, 20)

    def test_tree_then_asks_then_sizes(self):
        for asks in (None, [], [(0, 1, 2, 1)]):
            with self.assertRaises(NoTree):
                best_keep(([0, 1], [1, 0]), asks)
        with self.assertRaises(NoAsks) as caught:
            best_keep(star(3), TRIANGLE + [(0, 1, 2, 1), (0, 0, 1, 1)])
        self.assertEqual(caught.exception.number, 4)


if __name__ == "__main__":
    unittest.main()
