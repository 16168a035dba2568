import copy
import random
import unittest
from fractions import Fraction

from tests.cases import Odd, best_worth, bush, odd_things, row, some_asks, some_trees, told
from treeasks.errors import NoAsks, NoPrices, NoTree
from treeasks.prices import bound_of, look_at_prices, spares
from treeasks.ways import way_between

BIG = 10 ** 59 + 7


def some_prices(tree, seed, most_bottom):
    chance = random.Random(seed)
    return [told(Fraction(chance.randint(0, 3 * most_bottom), chance.randint(1, most_bottom))) for room in tree[1]]


def spares_by_hand(tree, asks, prices):
    found = []
    for one, other, size, worth in asks:
        paid = sum(Fraction(*prices[tie - 1]) for tie in way_between(tree, one, other))
        found.append(max(Fraction(0), worth - size * paid))
    return found


def bound_by_hand(tree, asks, prices):
    paid = sum(room * Fraction(*price) for room, price in zip(tree[1], prices))
    return paid + sum(spares_by_hand(tree, asks, prices))


class Spares(unittest.TestCase):
    def test_whole_prices(self):
        asks = [(0, 3, 1, 10), (1, 3, 2, 10), (0, 1, 3, 10)]
        self.assertEqual(spares(row(3), asks, [(1, 1), (2, 1), (1, 1)]), [(6, 1), (4, 1), (7, 1)])

    def test_unlike_bottoms(self):
        asks = [(0, 3, 1, 2), (3, 1, 2, 2), (0, 1, 3, 7)]
        self.assertEqual(spares(row(3), asks, [(1, 2), (1, 3), (1, 5)]), [(29, 30), (14, 15), (11, 2)])

    def test_nought(self):
        asks = [(0, 3, 1, 10), (1, 3, 2, 5)]
        self.assertEqual(spares(row(3), asks, [(0, 1)] * 3), [(10, 1), (5, 1)])

    def test_just_nought_and_below(self):
        prices = [(1, 2), (1, 3), (1, 6)]
        self.assertEqual(spares(row(3), [(0, 3, 4, 4)], prices), [(0, 1)])
        self.assertEqual(spares(row(3), [(0, 3, 4, 3)], prices), [(0, 1)])
        self.assertEqual(spares(row(3), [(0, 3, 4, 5)], prices), [(1, 1)])

    def test_no_asks(self):
        self.assertEqual(spares(row(2), [], [(1, 2), (1, 3)]), [])

    def test_by_hand(self):
        for seed, tree in enumerate(some_trees(20)):
            asks = some_asks(tree, seed, seed)
            for most_bottom in (1, 6, 10 ** 59):
                prices = some_prices(tree, seed, most_bottom)
                by_hand = [told(spare) for spare in spares_by_hand(tree, asks, prices)]
                self.assertEqual(spares(tree, asks, prices), by_hand)

    def test_handed_things_stay_and_told_list_is_new(self):
        tree, asks, prices = row(3), [(0, 3, 1, 10), (1, 2, 1, 1)], [(1, 2), (0, 1), (7, 3)]
        kept = copy.deepcopy((tree, asks, prices))
        first = spares(tree, asks, prices)
        again = list(first)
        first.clear()
        bound_of(tree, asks, prices)
        self.assertEqual((tree, asks, prices), kept)
        self.assertEqual(spares(tree, asks, prices), again)


class Bounds(unittest.TestCase):
    def test_whole_prices(self):
        tree = ([0, 0, 1], [4, 6, 3])
        asks = [(2, 3, 2, 30), (0, 1, 1, 2)]
        self.assertEqual(bound_of(tree, asks, [(1, 1), (2, 1), (3, 1)]), (4 + 12 + 9 + 18 + 1, 1))

    def test_unlike_bottoms(self):
        self.assertEqual(bound_of(([0, 1], [1, 1]), [(0, 2, 1, 1)], [(1, 2), (1, 3)]), (1, 1))
        self.assertEqual(bound_of(([0, 1], [2, 1]), [(0, 2, 1, 1)], [(1, 2), (1, 3)]), (3, 2))

    def test_nought_is_all_worths(self):
        self.assertEqual(bound_of(row(2), [(0, 1, 1, 7), (2, 0, 5, 9)], [(0, 1), (0, 1)]), (16, 1))

    def test_no_asks(self):
        self.assertEqual(bound_of(row(2, 6), [], [(1, 2), (1, 4)]), (9, 2))
        self.assertEqual(bound_of(row(2), [], [(0, 1), (0, 1)]), (0, 1))

    def test_by_hand(self):
        for seed, tree in enumerate(some_trees(20)):
            asks = some_asks(tree, seed, seed)
            for most_bottom in (1, 6, 10 ** 59):
                prices = some_prices(tree, seed, most_bottom)
                self.assertEqual(bound_of(tree, asks, prices), told(bound_by_hand(tree, asks, prices)))

    def test_no_keep_that_fits_is_worth_more(self):
        for seed, tree in enumerate(some_trees(25, 5, 4)):
            asks = some_asks(tree, 6, seed)
            best = best_worth(tree, asks)
            for turn in range(12):
                bound = bound_of(tree, asks, some_prices(tree, 100 * seed + turn, 1 + turn))
                self.assertLessEqual(best, Fraction(*bound))

    def test_a_bound_that_a_keep_reaches(self):
        tree, asks = ([0, 1], [1, 1]), [(0, 1, 1, 3), (0, 2, 1, 5), (1, 2, 1, 4)]
        self.assertEqual(bound_of(tree, asks, [(3, 1), (4, 1)]), (best_worth(tree, asks), 1))


class Refusals(unittest.TestCase):
    def refused(self, tree, thing, number):
        for ask in (look_at_prices, lambda *them: spares(them[0], [], them[1]),
                    lambda *them: bound_of(them[0], [], them[1])):
            with self.subTest(thing=thing):
                with self.assertRaises(NoPrices) as caught:
                    ask(tree, thing)
                self.assertEqual(caught.exception.number, number)

    def test_prices(self):
        for prices in ([(0, 1)] * 8, [(1, 2)] * 8, [(BIG, BIG + 1)] * 8, [(k, 1) for k in range(8)]):
            kept = list(prices)
            self.assertIsNone(look_at_prices(bush(), prices))
            self.assertEqual(prices, kept)

    def test_no_list(self):
        for thing in odd_things() + [0, ((0, 1),) * 8, (1, 2), "00000000"]:
            if not isinstance(thing, list):
                self.refused(bush(), thing, None)

    def test_too_short(self):
        for many in range(8):
            self.refused(bush(), [(1, 2)] * many, many)

    def test_too_long(self):
        for many in (9, 10, 40):
            self.refused(bush(), [(1, 2)] * many, 8)
        self.refused(bush(), [(1, 2)] * 8 + [None], 8)
        self.refused(row(23), [(1, 2)] * 24, 23)

    def test_a_thing_ahead_of_the_end_that_is_missing_or_too_far(self):
        self.refused(bush(), [(1, 2), (2, 2), (1, 2)], 1)
        self.refused(bush(), [(1, 2)] * 7 + [(-1, 2)] + [(1, 2)] * 4, 7)
        self.refused(bush(), [None] + [(1, 2)] * 8, 0)

    def test_things_that_are_no_prices(self):
        bad_ones = odd_things() + [0, 1, -1, (-1, 2), (-1, 1), (2, 2), (0, 2), (1, 0), (1, -1), (-1, -1), [1, 2],
                                   (1, 2, 3), (1, True), (True, 2), Odd()]
        for bad in bad_ones:
            for place in (0, 3, 7):
                prices = [(1, 2)] * 8
                prices[place] = bad
                self.refused(bush(), prices, place)

    def test_the_first_of_several(self):
        self.refused(row(4), [(0, 1), (4, 2), None, (-1, 1)], 1)
        self.refused(row(4), [(0, 1), (1, 2), "1", (-1, 1)], 2)

    def test_tree_then_asks_then_prices(self):
        for prices in (None, [], [None], [(0, 1)] * 9):
            with self.assertRaises(NoTree):
                look_at_prices(([0, 1], [1, 0]), prices)
            for ask in (spares, bound_of):
                for asks in ([], None, [None]):
                    with self.assertRaises(NoTree):
                        ask(([0, 1], [1, 0]), asks, prices)
                with self.assertRaises(NoAsks) as caught:
                    ask(bush(), [(0, 1, 1, 1), (0, 0, 1, 1)], prices)
                self.assertEqual(caught.exception.number, 1)


if __name__ == "__main__":
    unittest.main()
