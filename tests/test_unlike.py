import unittest
from fractions import Fraction

from tests.cases import bush, check_own, fits, ones, row, some_asks, some_trees, star, ties_of, told
from treeasks.errors import NoAsks, NoShare, NoTree
from treeasks.keeps import worth_of
from treeasks.prices import bound_of
from treeasks.unlike import keep_unlike


def by_hand(tree, asks):
    keep, prices = [], [Fraction(0)] * len(tree[0])
    for number in sorted(range(len(asks)), key=lambda number: (-Fraction(asks[number][3], asks[number][2]), number)):
        one, other, size, worth = asks[number]
        over = []
        for tie in ties_of(tree, asks[number]):
            load = sum(asks[kept][2] for kept in keep if tie in ties_of(tree, asks[kept]))
            if load + size > tree[1][tie - 1]:
                over.append(tie)
        if over == []:
            keep.append(number)
        elif sum(prices[tie - 1] for tie in over) == 0:
            prices[min(over) - 1] = Fraction(worth, size)
    return sorted(keep), [told(price) for price in prices]


def to_half(tree, asks):
    """The same asks, their sizes brought down to half of the rooms on their ways."""
    brought = []
    for one, other, size, worth in asks:
        half = min(tree[1][tie - 1] for tie in ties_of(tree, (one, other))) // 2
        brought.append((one, other, min(size, half), worth))
    return brought


def cases_of_ones():
    for seed, tree in enumerate([row(1, 1), row(23, 2), star(23, 1), bush()] + some_trees(50, most_room=4)):
        yield tree, ones(some_asks(tree, (7 * seed + 5) % 31, seed, most_worth=6))


def cases_by_sizes():
    for seed, tree in enumerate([row(1), row(23), star(23), bush()] + some_trees(50)):
        tree = (tree[0], [room + 1 for room in tree[1]])
        yield tree, to_half(tree, some_asks(tree, (7 * seed + 5) % 31, seed, 6, 9))


class Told(unittest.TestCase):
    def test_sizes_one(self):
        tree = ([0, 1], [1, 2])
        asks = [(0, 2, 1, 3), (0, 2, 1, 5), (1, 2, 1, 3), (1, 2, 1, 1), (0, 1, 1, 2)]
        self.assertEqual(keep_unlike(tree, asks), ([1, 2], [(3, 1), (1, 1)]))

    def test_sizes_one_over_rooms_of_one(self):
        asks = [(1, 2, 1, 3), (2, 3, 1, 4), (0, 1, 1, 4), (0, 3, 1, 1)]
        self.assertEqual(keep_unlike(star(3, 1), asks), ([1, 2], [(3, 1), (0, 1), (1, 1)]))

    def test_the_least_numbered_tie_has_the_price(self):
        asks = [(1, 2, 1, 9), (0, 1, 1, 7), (0, 2, 1, 6)]
        self.assertEqual(keep_unlike(row(2, 1), asks), ([0, 1], [(6, 1), (0, 1)]))
        self.assertEqual(keep_unlike(star(2, 1), [(0, 2, 1, 9), (0, 1, 1, 7), (2, 1, 1, 6)]),
                         ([0, 1], [(6, 1), (0, 1)]))

    def test_no_price_where_one_of_the_ties_has_one(self):
        asks = [(1, 2, 1, 9), (1, 2, 1, 8), (0, 1, 1, 7), (0, 2, 1, 6)]
        self.assertEqual(keep_unlike(row(2, 1), asks), ([0, 2], [(0, 1), (8, 1)]))
        self.assertEqual(keep_unlike(row(2, 1), asks + [(0, 1, 1, 5)]), ([0, 2], [(5, 1), (8, 1)]))

    def test_ties_where_it_fits_do_not_count(self):
        # The last ask fits at tie 2, which has a price by a greater ask that doesn't fit there.
        tree, asks = ([0, 1], [2, 4]), [(1, 2, 2, 20), (1, 2, 1, 9), (1, 2, 2, 16), (0, 1, 1, 7), (0, 1, 1, 6)]
        self.assertEqual(keep_unlike(tree, asks + [(0, 2, 1, 5)]), ([0, 1, 3, 4], [(5, 1), (8, 1)]))

    def test_by_worth_parted_by_size(self):
        asks = [(0, 1, 3, 7), (0, 1, 2, 5), (0, 1, 3, 8)]
        self.assertEqual(keep_unlike(row(1, 7), asks), ([1, 2], [(7, 3)]))
        self.assertEqual(keep_unlike(row(1, 8), asks), ([0, 1, 2], [(0, 1)]))

    def test_alike_ones_by_numbers(self):
        asks = [(0, 1, 2, 4), (0, 1, 1, 2), (0, 1, 3, 6), (0, 1, 1, 2)]
        self.assertEqual(keep_unlike(row(1, 6), asks), ([0, 1, 2], [(2, 1)]))
        self.assertEqual(keep_unlike(row(1, 6), asks[::-1]), ([0, 1, 2], [(2, 1)]))

    def test_just_half_of_a_room(self):
        self.assertEqual(keep_unlike(row(1, 4), [(0, 1, 2, 6)] * 3), ([0, 1], [(3, 1)]))
        self.assertEqual(keep_unlike(row(1, 5), [(0, 1, 2, 6)] * 3), ([0, 1], [(3, 1)]))
        half = (0, 1, 500000, 10 ** 12)
        self.assertEqual(keep_unlike(row(1, 10 ** 6), [half] * 3), ([0, 1], [(2000000, 1)]))

    def test_no_asks(self):
        self.assertEqual(keep_unlike(bush(), []), ([], [(0, 1)] * 8))

    def test_by_hand(self):
        for tree, asks in list(cases_of_ones()) + list(cases_by_sizes()):
            self.assertEqual(keep_unlike(tree, asks), by_hand(tree, asks))

    def test_nothing_is_changed_and_lists_are_new(self):
        check_own(self, keep_unlike, bush(), ones(some_asks(bush(), 20)))
        check_own(self, keep_unlike, row(3, 8), some_asks(row(3), 9))
        check_own(self, keep_unlike, row(3), [])


class Shares(unittest.TestCase):
    def within(self, tree, asks, often):
        keep, prices = keep_unlike(tree, asks)
        longest = max([len(ties_of(tree, ask)) for ask in asks], default=0)
        self.assertTrue(fits(tree, asks, keep))
        self.assertLessEqual(Fraction(*bound_of(tree, asks, prices)), often * longest * worth_of(tree, asks, keep))

    def test_sizes_one(self):
        for tree, asks in cases_of_ones():
            self.within(tree, asks, 1)

    def test_by_sizes(self):
        for tree, asks in cases_by_sizes():
            self.within(tree, asks, 2)


class Refusals(unittest.TestCase):
    def refused(self, tree, asks, number):
        with self.subTest(tree=tree, asks=asks):
            with self.assertRaises(NoShare) as caught:
                keep_unlike(tree, asks)
            self.assertEqual(caught.exception.number, number)

    def test_above_half_of_a_room(self):
        self.refused(row(1, 5), [(0, 1, 3, 1)], 0)
        self.refused(row(1, 4), [(0, 1, 2, 1), (0, 1, 3, 1), (0, 1, 4, 1)], 1)
        self.refused(row(1, 4), [(0, 1, 1, 1)] * 29 + [(0, 1, 3, 1)], 29)
        self.refused(row(1, 10 ** 6), [(0, 1, 500000, 1), (0, 1, 500001, 1)], 1)
        self.refused(row(1, 4), [(0, 1, 10 ** 6, 1)], 0)

    def test_any_tie_of_the_way_and_no_other_one(self):
        tree = (list(range(4)), [9, 9, 4, 1])
        self.assertEqual(keep_unlike(tree, [(0, 2, 3, 1)]), ([0], [(0, 1)] * 4))
        self.refused(tree, [(0, 2, 3, 1), (0, 3, 3, 1)], 1)
        self.refused(tree, [(0, 2, 3, 1), (1, 3, 2, 1), (2, 3, 3, 1)], 2)

    def test_size_one_over_a_room_of_one_beside_other_sizes(self):
        tree = ([0, 1], [1, 4])
        self.assertEqual(keep_unlike(tree, [(0, 1, 1, 1), (1, 2, 1, 1)]), ([0, 1], [(0, 1)] * 2))
        self.refused(tree, [(0, 1, 1, 1), (1, 2, 2, 1)], 0)
        self.refused(tree, [(1, 2, 2, 1), (1, 2, 1, 1), (0, 1, 1, 1)], 2)
        self.refused(tree, [(0, 1, 1, 1), (1, 2, 3, 1)], 0)

    def test_tree_then_asks_then_sizes(self):
        for asks in (None, [(0, 1, 3, 1)]):
            with self.assertRaises(NoTree):
                keep_unlike(([0, 1], [1, 0]), asks)
        with self.assertRaises(NoAsks) as caught:
            keep_unlike(row(1, 4), [(0, 1, 3, 1), (0, 0, 1, 1)])
        self.assertEqual(caught.exception.number, 1)


if __name__ == "__main__":
    unittest.main()
