import unittest
from fractions import Fraction

from tests.cases import bush, check_own, fits, ones, pile_by_hand, row, some_asks, some_trees, star
from treeasks.alike import keep_alike
from treeasks.errors import NoAsks, NoShare, NoTree
from treeasks.keeps import worth_of
from treeasks.prices import bound_of

ROOMS = (1, 2, 3, 4, 7, 60)


def with_room(tree, room):
    return (tree[0], [room] * len(tree[0]))


def cases():
    """Trees with rooms alike, and asks of size one."""
    for seed, tree in enumerate([row(1), row(23), star(23), bush()] + some_trees(30) + some_trees(20, 4, seed=2)):
        for room in ROOMS:
            for worth in (3, 10 ** 12):
                yield with_room(tree, room), ones(some_asks(tree, (7 * seed + room) % 31, seed, most_worth=worth))


class Told(unittest.TestCase):
    def test_row(self):
        asks = [(0, 3, 1, 10), (1, 3, 1, 4), (2, 3, 1, 6), (1, 2, 1, 3)]
        rests = [(21, 4), (1, 1), (6, 1), (5, 2)]
        self.assertEqual(keep_alike(row(3, 2), asks), ([0, 2, 3], [(21, 8), (7, 4), (3, 1)], rests))

    def test_star_with_rests_that_are_just_nought(self):
        asks = [(1, 2, 1, 5), (2, 3, 1, 5), (1, 3, 1, 4), (0, 1, 1, 5)]
        rests = [(5, 1), (0, 1), (0, 1), (0, 1)]
        self.assertEqual(keep_alike(star(3, 1), asks), ([0], [(5, 1), (5, 1), (0, 1)], rests))
        asks[3] = (0, 1, 1, 6)
        rests[3] = (1, 1)
        self.assertEqual(keep_alike(star(3, 1), asks), ([3], [(6, 1), (5, 1), (0, 1)], rests))

    def test_an_ask_that_was_not_laid_is_not_kept_though_it_would_fit(self):
        asks = [(1, 2, 1, 5), (0, 2, 1, 5), (1, 3, 1, 9)]
        self.assertEqual(keep_alike(star(3, 1), asks), ([2], [(9, 1), (5, 1), (4, 1)], [(5, 1), (0, 1), (4, 1)]))

    def test_one_depth_by_numbers(self):
        asks = [(0, 1, 1, 4), (0, 1, 1, 6), (1, 0, 1, 5)]
        self.assertEqual(keep_alike(row(1, 1), asks), ([1], [(6, 1)], [(4, 1), (2, 1), (0, 1)]))
        self.assertEqual(keep_alike(row(1, 1), asks[::-1]), ([1], [(6, 1)], [(5, 1), (1, 1), (0, 1)]))

    def test_the_deepest_first(self):
        asks = [(0, 2, 1, 5), (1, 2, 1, 3)]
        self.assertEqual(keep_alike(row(2, 1), asks), ([0], [(2, 1), (3, 1)], [(2, 1), (3, 1)]))

    def test_room_60(self):
        asks = [(0, 1, 1, 1), (0, 1, 1, 1)]
        self.assertEqual(keep_alike(row(1, 60), asks), ([0, 1], [(119, 3600)], [(1, 1), (59, 60)]))

    def test_no_asks(self):
        for tree in (row(4, 1), star(23, 60), with_room(bush(), 3)):
            self.assertEqual(keep_alike(tree, []), ([], [(0, 1)] * len(tree[0]), []))

    def test_by_hand(self):
        for tree, asks in cases():
            by_hand = pile_by_hand(tree, asks, range(len(asks)), lambda ask: 1, lambda ask: tree[1][0])
            self.assertEqual(keep_alike(tree, asks), by_hand)

    def test_nothing_is_changed_and_lists_are_new(self):
        check_own(self, keep_alike, with_room(bush(), 2), ones(some_asks(bush(), 12)))
        check_own(self, keep_alike, row(2, 1), [])


class Shares(unittest.TestCase):
    def test_the_keep_fits_and_the_bound_is_within_the_share(self):
        for tree, asks in cases():
            keep, prices, rests = keep_alike(tree, asks)
            room = tree[1][0]
            self.assertTrue(fits(tree, asks, keep))
            worth = worth_of(tree, asks, keep)
            together = sum(Fraction(*rest) for rest in rests)
            share = 2 if room in (1, 2) else 3 - Fraction(2, room)
            self.assertGreaterEqual(worth, together)
            self.assertLessEqual(Fraction(*bound_of(tree, asks, prices)), share * together)

    def test_a_bound_that_is_just_twice_the_worth(self):
        tree, asks = star(3, 1), [(1, 2, 1, 5), (0, 2, 1, 5), (1, 3, 1, 9)]
        keep, prices, rests = keep_alike(tree, asks)
        self.assertEqual(bound_of(tree, asks, prices), (2 * worth_of(tree, asks, keep), 1))


class Refusals(unittest.TestCase):
    def refused(self, tree, asks, number):
        with self.subTest(tree=tree, asks=asks):
            with self.assertRaises(NoShare) as caught:
                keep_alike(tree, asks)
            self.assertEqual(caught.exception.number, number)

    def test_rooms_unlike(self):
        for rooms in ([1, 1, 2], [2, 1, 1], [1, 2, 1], [60, 60, 61], [1, 61, 61]):
            self.refused(([0, 0, 1], rooms), [], None)
            self.refused(([0, 0, 1], rooms), [(0, 1, 1, 1)], None)

    def test_rooms_above_60(self):
        for room in (61, 62, 10 ** 6):
            self.refused(row(3, room), [], None)
            self.refused(row(1, room), [(0, 1, 1, 1)], None)

    def test_sizes(self):
        one, two = (0, 1, 1, 1), (0, 1, 2, 1)
        self.refused(row(3, 5), [two], 0)
        self.refused(row(3, 5), [one, one, two, two], 2)
        self.refused(row(3, 5), [one] * 29 + [two], 29)
        self.refused(row(3, 60), [one, (0, 1, 10 ** 6, 1), two], 1)

    def test_rooms_ahead_of_sizes(self):
        self.refused(([0, 0], [3, 4]), [(0, 1, 2, 1)], None)
        self.refused(row(2, 61), [(0, 1, 2, 1)], None)

    def test_tree_then_asks_then_rooms(self):
        with self.assertRaises(NoTree):
            keep_alike(([0, 1], [1, 0]), None)
        with self.assertRaises(NoTree):
            keep_alike(None, [])
        for tree in (row(2, 61), row(2, 1), ([0, 0], [1, 2])):
            with self.assertRaises(NoAsks) as caught:
                keep_alike(tree, [(0, 1, 2, 1), (0, 3, 1, 1)])
            self.assertEqual(caught.exception.number, 1)


if __name__ == "__main__":
    unittest.main()
