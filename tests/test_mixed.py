import random
import unittest
from fractions import Fraction

from tests.cases import (
    best_worth, bush, check_own, fits, odd_things, pile_by_hand, row, some_asks, some_prices, some_trees, star, ties_of,
    told)
from treeasks.errors import NoAsks, NoPrices, NoShare, NoTree
from treeasks.keeps import worth_of
from treeasks.mixed import keep_mixed, mixed_bound

ASKS = [(0, 2, 3, 10), (1, 2, 2, 6), (0, 1, 4, 8), (0, 2, 1, 7)]


def with_room(tree, room):
    return (tree[0], [room] * len(tree[0]))


def cases(trees, most_asks):
    """Trees with rooms alike, and asks whose sizes are no greater."""
    for seed, tree in enumerate(trees):
        for room in (1, 2, 3, 4, 5, 10, 60):
            many = (5 * seed + room) % (most_asks + 1)
            yield with_room(tree, room), some_asks(tree, many, seed, most_size=room)


def many_cases():
    return cases([row(1), row(23), star(23), bush()] + some_trees(30), 30)


def small_cases():
    return cases(some_trees(25, 5), 6)


def is_wide(tree, ask):
    return ask[2] > Fraction(tree[1][0], 2)


def mixed_by_hand(tree, asks, pieces, units):
    bound = sum(Fraction(*price) for price in pieces) + tree[1][0] * sum(Fraction(*price) for price in units)
    for ask in asks:
        weight, prices = (1, pieces) if is_wide(tree, ask) else (ask[2], units)
        bound += max(0, ask[3] - weight * sum(Fraction(*prices[tie - 1]) for tie in ties_of(tree, ask)))
    return told(bound)


class Told(unittest.TestCase):
    def test_both(self):
        self.assertEqual(keep_mixed(row(2, 4), ASKS), ([0], [1, 3], [(10, 1), (0, 1)], [(4, 3), (3, 1)]))

    def test_wide_alone(self):
        asks = [(1, 2, 3, 5), (2, 3, 4, 6), (1, 3, 5, 4)]
        told_ones = ([1], [], [(5, 1), (6, 1), (1, 1)], [(0, 1)] * 3)
        self.assertEqual(keep_mixed(star(3, 5), asks), told_ones)

    def test_narrow_alone(self):
        asks = [(1, 2, 2, 5), (2, 3, 1, 6), (1, 3, 2, 4)]
        told_ones = ([], [0, 1], [(0, 1)] * 3, [(5, 3), (11, 4), (13, 12)])
        self.assertEqual(keep_mixed(star(3, 5), asks), told_ones)

    def test_twice_a_size_just_the_room_and_just_above_it(self):
        none = [(0, 1)]
        self.assertEqual(keep_mixed(row(1, 4), [(0, 1, 2, 6)]), ([], [0], none, [(3, 1)]))
        self.assertEqual(keep_mixed(row(1, 4), [(0, 1, 3, 6)]), ([0], [], [(6, 1)], none))
        self.assertEqual(keep_mixed(row(1, 5), [(0, 1, 2, 6)]), ([], [0], none, [(2, 1)]))
        self.assertEqual(keep_mixed(row(1, 5), [(0, 1, 3, 6)]), ([0], [], [(6, 1)], none))
        self.assertEqual(keep_mixed(row(1, 60), [(0, 1, 30, 6)]), ([], [0], none, [(1, 5)]))
        self.assertEqual(keep_mixed(row(1, 60), [(0, 1, 31, 6)]), ([0], [], [(6, 1)], none))

    def test_a_size_that_is_the_room(self):
        for room in (1, 2, 60):
            asks = [(0, 1, room, 6), (0, 1, room, 7)]
            self.assertEqual(keep_mixed(row(1, room), asks), ([1], [], [(7, 1)], [(0, 1)]))

    def test_a_wide_rest_goes_by_the_piece(self):
        asks = [(1, 2, 3, 5), (0, 2, 4, 7)]
        self.assertEqual(keep_mixed(row(2, 4), asks)[2], [(2, 1), (5, 1)])

    def test_a_narrow_rest_goes_by_the_size(self):
        asks = [(1, 2, 2, 6), (0, 2, 2, 7)]
        self.assertEqual(keep_mixed(row(2, 4), asks)[3], [(1, 2), (3, 1)])

    def test_rests_that_are_just_nought(self):
        self.assertEqual(keep_mixed(row(1, 4), [(0, 1, 3, 5), (0, 1, 4, 5)])[0], [0])
        asks = [(1, 2, 2, 6), (0, 2, 2, 6)]
        self.assertEqual(keep_mixed(row(2, 4), asks), ([], [0], [(0, 1)] * 2, [(0, 1), (3, 1)]))

    def test_no_asks(self):
        self.assertEqual(keep_mixed(row(3, 60), []), ([], [], [(0, 1)] * 3, [(0, 1)] * 3))
        self.assertEqual(mixed_bound(row(3, 60), [], [(0, 1)] * 3, [(0, 1)] * 3), (0, 1))

    def test_by_hand(self):
        for tree, asks in many_cases():
            room = tree[1][0]
            wide = [number for number, ask in enumerate(asks) if is_wide(tree, ask)]
            narrow = [number for number in range(len(asks)) if number not in wide]
            wides = pile_by_hand(tree, asks, wide, lambda ask: 1, lambda ask: 1)
            narrows = pile_by_hand(tree, asks, narrow, lambda ask: ask[2], lambda ask: room - ask[2])
            self.assertEqual(keep_mixed(tree, asks), (wides[0], narrows[0], wides[1], narrows[1]))

    def test_each_keep_fits_by_itself(self):
        for tree, asks in many_cases():
            wide, narrow, pieces, units = keep_mixed(tree, asks)
            self.assertTrue(fits(tree, asks, wide))
            self.assertTrue(fits(tree, asks, narrow))
            self.assertEqual([is_wide(tree, asks[number]) for number in wide + narrow],
                             [True] * len(wide) + [False] * len(narrow))

    def test_nothing_is_changed_and_lists_are_new(self):
        check_own(self, keep_mixed, with_room(bush(), 4), some_asks(bush(), 20, most_size=4))
        check_own(self, keep_mixed, row(2, 4), [])
        check_own(self, mixed_bound, row(2, 4), list(ASKS), [(10, 1), (0, 1)], [(4, 3), (3, 1)])


class Bounds(unittest.TestCase):
    def test_told_ones(self):
        self.assertEqual(mixed_bound(row(2, 4), ASKS, [(10, 1), (0, 1)], [(4, 3), (3, 1)]), (30, 1))
        self.assertEqual(mixed_bound(row(2, 4), ASKS, [(0, 1)] * 2, [(0, 1)] * 2), (31, 1))
        self.assertEqual(mixed_bound(row(2, 4), ASKS, [(1, 2), (1, 3)], [(1, 5), (1, 7)]), (2187, 70))
        self.assertEqual(mixed_bound(row(2, 4), [], [(1, 2), (1, 3)], [(1, 5), (1, 7)]), (463, 210))

    def test_by_hand(self):
        chance = random.Random(3)
        for tree, asks in many_cases():
            pieces, units = some_prices(tree, chance), some_prices(tree, chance)
            by_hand = mixed_by_hand(tree, asks, pieces, units)
            self.assertEqual(mixed_bound(tree, asks, pieces, units), by_hand)

    def test_the_bound_of_the_told_ones(self):
        for tree, asks in many_cases():
            wide, narrow, pieces, units = keep_mixed(tree, asks)
            bound = mixed_bound(tree, asks, pieces, units)
            self.assertEqual(bound, mixed_by_hand(tree, asks, pieces, units))
            wide_worth, narrow_worth = worth_of(tree, asks, wide), worth_of(tree, asks, narrow)
            self.assertLessEqual(Fraction(*bound), 2 * wide_worth + 4 * narrow_worth)
            self.assertLessEqual(Fraction(*bound), 6 * max(wide_worth, narrow_worth))

    def test_no_keep_that_fits_is_worth_more(self):
        chance = random.Random(4)
        for tree, asks in small_cases():
            best = best_worth(tree, asks)
            wide, narrow, pieces, units = keep_mixed(tree, asks)
            bound = Fraction(*mixed_bound(tree, asks, pieces, units))
            self.assertLessEqual(best, bound)
            self.assertGreaterEqual(6 * max(worth_of(tree, asks, wide), worth_of(tree, asks, narrow)), bound)
            for turn in range(6):
                others = some_prices(tree, chance), some_prices(tree, chance)
                self.assertLessEqual(best, Fraction(*mixed_bound(tree, asks, others[0], others[1])))


class Refusals(unittest.TestCase):
    def refused(self, tree, asks, number):
        for prices in ([], None, [(1, 1)] * len(tree[0])):
            for ask in (keep_mixed, lambda *them: mixed_bound(them[0], them[1], prices, prices)):
                with self.subTest(tree=tree, asks=asks):
                    with self.assertRaises(NoShare) as caught:
                        ask(tree, asks)
                    self.assertEqual(caught.exception.number, number)

    def test_rooms(self):
        for rooms in ([3, 3, 4], [4, 3, 3], [60, 60, 61], [61] * 3, [10 ** 6] * 3):
            self.refused(([0, 0, 1], rooms), [], None)
            self.refused(([0, 0, 1], rooms), [(0, 1, 1, 1)], None)
            self.refused(([0, 0, 1], rooms), [(0, 1, 1, 1), (0, 1, 10 ** 6, 1)], None)

    def test_sizes_above_the_room(self):
        self.refused(row(2, 4), [(0, 1, 5, 1)], 0)
        self.refused(row(2, 4), [(0, 1, 4, 1), (0, 1, 5, 1), (0, 1, 6, 1)], 1)
        self.refused(row(2, 60), [(0, 1, 60, 1)] * 29 + [(0, 1, 61, 1)], 29)
        self.refused(row(2, 1), [(0, 1, 1, 1), (1, 2, 2, 1)], 1)

    def no_prices(self, pieces, units, number):
        with self.subTest(pieces=pieces, units=units):
            with self.assertRaises(NoPrices) as caught:
                mixed_bound(row(2, 4), ASKS, pieces, units)
            self.assertEqual(caught.exception.number, number)

    def test_no_prices(self):
        good = [(1, 2), (3, 1)]
        bad = [([(1, 2)], 1), ([], 0), (good + [(1, 1)], 2), ([(1, 2), (2, 2)], 1), ([(-1, 2), (0, 1)], 0), (None, None)]
        bad += [(thing, None) for thing in odd_things() if not isinstance(thing, list)]
        for thing, number in bad:
            self.no_prices(thing, good, number)
            self.no_prices(good, thing, number)

    def test_pieces_ahead_of_units(self):
        self.no_prices([(1, 2)], None, 1)
        self.no_prices(None, [(1, 2)], None)
        self.no_prices([(1, 2), None], [None], 1)

    def test_tree_then_asks(self):
        for pieces in ([], None):
            for ask in (keep_mixed, lambda *them: mixed_bound(them[0], them[1], pieces, pieces)):
                for asks in (None, [], [(0, 1, 99, 1)]):
                    with self.assertRaises(NoTree):
                        ask(([0, 1], [1, 0]), asks)
                for tree in (row(2, 61), row(2, 4), ([0, 0], [1, 2])):
                    with self.assertRaises(NoAsks) as caught:
                        ask(tree, [(0, 1, 99, 1), (0, 3, 1, 1)])
                    self.assertEqual(caught.exception.number, 1)


if __name__ == "__main__":
    unittest.main()
