import copy
import random
import unittest

from tests.cases import (
    Odd, big_trees, bush, check_own, lists_within, odd_things, one_way_asks, ones, path, reasons_in, row, some_asks,
    some_prices, some_trees, star)
from treeasks.asks import look_at_asks
from treeasks.best import best_keep
from treeasks.cuts import flow_and_cut, is_flow_paper, parts_all
from treeasks.errors import NoAsks, NoPlace, NoPrices, NoTree
from treeasks.flows import is_flow
from treeasks.hanging import (
    hung, hung_asks, hung_cut, hung_pointing, hung_prices, hung_reasons, hung_ring)
from treeasks.keeps import first_over, loads, worth_of
from treeasks.pointings import is_pointing
from treeasks.prices import bound_of, look_at_prices, spares
from treeasks.reasons import lets_reasons
from treeasks.rings import is_ring, pointed
from treeasks.seeking import seek
from treeasks.trees import look_at_tree

PRICES = [(1, 2), (2, 1), (3, 1), (4, 1), (5, 1), (6, 1), (7, 1), (8, 1)]


def trees():
    return [row(1), row(2), row(6), row(23), star(1), star(6), star(23), bush()] + some_trees(25)


def hung_each_way():
    for tree in trees():
        for place in range(len(tree[0]) + 1):
            yield tree, place


def by_hand(tree, place):
    """The order as it is told, each place's neighbours found by going through all ties."""
    order = [place]
    for turn in range(len(tree[0]) + 1):
        beside = [tie for tie, parent in enumerate(tree[0], 1) if parent == order[turn]]
        beside += [parent for tie, parent in enumerate(tree[0], 1) if tie == order[turn]]
        order += sorted(set(beside) - set(order))
    return [order.index(old) for old in range(len(order))]


def tie_between(tree, one, other):
    """The tie between two neighbours, or None."""
    for low, high in ((one, other), (other, one)):
        if low > 0 and tree[0][low - 1] == high:
            return low
    return None


def new_tie(tree, there, order, tie):
    return tie_between(there, order[tie], order[tree[0][tie - 1]])


class Trees(unittest.TestCase):
    def check(self, tree, place, parents, rooms, order):
        self.assertEqual(hung(tree, place), ((parents, rooms), order))

    def test_rows(self):
        tree = ([0, 1, 2], [7, 8, 9])
        self.check(tree, 0, [0, 1, 2], [7, 8, 9], [0, 1, 2, 3])
        self.check(tree, 1, [0, 0, 2], [7, 8, 9], [1, 0, 2, 3])
        self.check(tree, 2, [0, 0, 1], [8, 9, 7], [3, 1, 0, 2])
        self.check(tree, 3, [0, 1, 2], [9, 8, 7], [3, 2, 1, 0])

    def test_stars(self):
        tree = ([0, 0, 0], [7, 8, 9])
        self.check(tree, 0, [0, 0, 0], [7, 8, 9], [0, 1, 2, 3])
        self.check(tree, 1, [0, 1, 1], [7, 8, 9], [1, 0, 2, 3])
        self.check(tree, 2, [0, 1, 1], [8, 7, 9], [1, 2, 0, 3])
        self.check(tree, 3, [0, 1, 1], [9, 7, 8], [1, 2, 3, 0])

    def test_a_bush(self):
        # From 4: its neighbours 1, 6, 7; those of 1: 0, 3; of 0: 2; of 2: 5; of 5: 8.
        self.check(bush(), 4, [0, 0, 0, 1, 1, 4, 6, 7], [5, 1, 7, 4, 3, 6, 2, 8], [4, 1, 6, 5, 0, 7, 2, 3, 8])
        # From 5: 2 and 8; of 2: 0; of 0: 1; of 1: 3, 4; of 4: 6, 7.
        self.check(bush(), 5, [0, 0, 1, 3, 4, 4, 6, 6], [2, 8, 6, 4, 3, 5, 1, 7], [3, 4, 1, 5, 6, 0, 7, 8, 2])

    def test_from_the_root_numbers_may_change(self):
        self.check(([0, 1, 0], [7, 8, 9]), 0, [0, 0, 1], [7, 9, 8], [0, 1, 3, 2])
        self.check(bush(), 0, [0, 0, 1, 1, 2, 4, 4, 5], [4, 6, 3, 5, 2, 1, 7, 8], [0, 1, 2, 3, 4, 5, 6, 7, 8])

    def test_by_hand(self):
        for tree, place in hung_each_way():
            there, order = hung(tree, place)
            look_at_tree(there)
            self.assertEqual(order, by_hand(tree, place))
            self.assertEqual(order[place], 0)
            self.assertEqual(sorted(order), list(range(len(tree[0]) + 1)))
            for tie, parent in enumerate(tree[0], 1):
                new = new_tie(tree, there, order, tie)
                self.assertIsNotNone(new)
                self.assertEqual(there[1][new - 1], tree[1][tie - 1])

    def test_back_again(self):
        for tree, place in hung_each_way():
            there, order = hung(tree, place)
            back, again = hung(there, order[0])
            for tie, parent in enumerate(tree[0], 1):
                tie_back = tie_between(back, again[order[tie]], again[order[parent]])
                self.assertEqual(back[1][tie_back - 1], tree[1][tie - 1])


class Papers(unittest.TestCase):
    def test_asks(self):
        self.assertEqual(hung_asks(([0, 1, 2], [7, 8, 9]), [(0, 1, 2, 3), (3, 2, 4, 5), (1, 3, 1, 1)], 2),
                         [(3, 1, 2, 3), (2, 0, 4, 5), (1, 2, 1, 1)])
        for seed, (tree, place) in enumerate(hung_each_way()):
            asks = some_asks(tree, seed % 31, seed)
            there, order = hung(tree, place)
            told = hung_asks(tree, asks, place)
            look_at_asks(there, told)
            self.assertEqual(told, [(order[one], order[other], size, worth) for one, other, size, worth in asks])
            for ask, new in zip(asks, told):
                ways = [sorted(new_tie(tree, there, order, tie) for tie, text in path(tree, ask[0], ask[1])),
                        sorted(tie for tie, text in path(there, new[0], new[1]))]
                self.assertEqual(ways[0], ways[1])

    def test_prices(self):
        self.assertEqual(hung_prices(bush(), 4, PRICES), [PRICES[tie - 1] for tie in (4, 6, 7, 1, 3, 2, 5, 8)])
        chance = random.Random(1)
        for seed, (tree, place) in enumerate(hung_each_way()):
            asks = some_asks(tree, seed % 9, seed)
            prices = some_prices(tree, chance)
            there, order = hung(tree, place)
            told = hung_prices(tree, place, prices)
            look_at_prices(there, told)
            for tie in range(1, len(tree[0]) + 1):
                self.assertEqual(told[new_tie(tree, there, order, tie) - 1], prices[tie - 1])
            wanted = hung_asks(tree, asks, place)
            self.assertEqual(bound_of(there, wanted, told), bound_of(tree, asks, prices))
            self.assertEqual(spares(there, wanted, told), spares(tree, asks, prices))

    def test_keeps_and_flows_are_the_same(self):
        chance = random.Random(2)
        for seed, (tree, place) in enumerate(hung_each_way()):
            asks = some_asks(tree, seed % 9, seed)
            keep = [number for number in range(len(asks)) if chance.random() < 0.5]
            there, order = hung(tree, place)
            wanted = hung_asks(tree, asks, place)
            self.assertEqual(first_over(there, wanted, keep) is None, first_over(tree, asks, keep) is None)
            load = loads(there, wanted, keep)
            for tie, taken in enumerate(loads(tree, asks, keep), 1):
                self.assertEqual(load[new_tie(tree, there, order, tie) - 1], taken)
            flow = [chance.randint(0, 3) for ask in asks]
            self.assertIs(is_flow(there, wanted, flow), is_flow(tree, asks, flow))

    def test_cuts(self):
        self.assertEqual(hung_cut(bush(), 4, [1, 2, 4]), [1, 4, 6])
        self.assertEqual(hung_cut(bush(), 4, [4, 2, 1]), [1, 4, 6])
        self.assertEqual(hung_cut(bush(), 4, [8, 3, 7, 1, 2, 4, 6, 5]), [1, 2, 3, 4, 5, 6, 7, 8])
        self.assertEqual(hung_cut(bush(), 4, []), [])
        for seed, (tree, place) in enumerate(hung_each_way()):
            asks = some_asks(tree, seed % 9, seed)
            flow, cut = flow_and_cut(tree, asks)
            there, order = hung(tree, place)
            told = hung_cut(tree, place, cut)
            self.assertEqual(told, sorted(new_tie(tree, there, order, tie) for tie in cut))
            self.assertEqual(told, hung_cut(tree, place, cut[::-1]))
            wanted = hung_asks(tree, asks, place)
            self.assertIs(parts_all(there, wanted, told), True)
            self.assertIs(is_flow_paper(there, wanted, (flow, told)), True)

    def test_pointings(self):
        tree = ([0, 1, 2], [7, 8, 9])
        # A row that points to the root; hung from 2 tie 3 still points up, the others away from the new root.
        self.assertEqual(hung_pointing(tree, [], 2, ["up", "up", "up"]), ["down", "up", "down"])
        self.assertEqual(hung_pointing(tree, [], 2, ["up", "down", "down"]), ["up", "down", "down"])
        self.assertEqual(hung_pointing(tree, [], 3, ["up", "down", "down"]), ["up", "up", "down"])
        self.assertEqual(hung_pointing(([0, 1, 0], [7, 8, 9]), [], 0, ["up", "down", "down"]), ["up", "down", "down"])
        self.assertEqual(hung_pointing(([0, 1, 0], [7, 8, 9]), [], 0, ["up", "up", "down"]), ["up", "down", "up"])
        seen = 0
        for seed, (tree, place) in enumerate(hung_each_way()):
            asks = one_way_asks(tree, seed % 31, seed, 9)
            kind, pointing = pointed(tree, asks)
            there, order = hung(tree, place)
            told = hung_pointing(tree, asks, place, pointing)
            self.assertIs(is_pointing(there, hung_asks(tree, asks, place), told), True)
            for tie, text in enumerate(pointing, 1):
                new = new_tie(tree, there, order, tie)
                self.assertEqual(told[new - 1] == text, new == order[tie])
                seen += new != order[tie]
        self.assertGreater(seen, 500)

    def test_rings(self):
        triangle = [(1, 2, 1, 1), (2, 3, 1, 1), (3, 1, 1, 1)]
        self.assertEqual(hung_ring(star(3), triangle, 2, [(1, 0), (2, 1), (3, 2)]), [(2, 0), (1, 1), (3, 2)])
        seen = 0
        for seed, (tree, place) in enumerate(hung_each_way()):
            asks = some_asks(tree, 30, seed)
            kind, ring = pointed(tree, asks)
            if kind == "ring":
                seen += 1
                there, order = hung(tree, place)
                told = hung_ring(tree, asks, place, ring)
                self.assertIs(is_ring(there, hung_asks(tree, asks, place), told), True)
                self.assertEqual(told, [(new_tie(tree, there, order, tie), number) for tie, number in ring])
        self.assertGreater(seen, 100)

    def test_reasons(self):
        told = hung_reasons(([0, 1, 2], [7, 8, 9]), [(0, 3, 8, 1)] * 2, 2,
                            ("split", 1, ("full", 1), ("split", 0, ("prices", 4, [1, 2, 3]), ("prices", 1, [0, 0, 5]))))
        self.assertEqual(told, ("split", 1, ("full", 3),
                                ("split", 0, ("prices", 4, [2, 3, 1]), ("prices", 1, [0, 5, 0]))))
        seen = 0
        for seed, (tree, place) in enumerate(hung_each_way()):
            asks = some_asks(tree, 9, seed)
            answer, keep, reasons = seek(tree, asks, 4000)
            worth = worth_of(tree, asks, keep)
            there, order = hung(tree, place)
            wanted = hung_asks(tree, asks, place)
            carried = hung_reasons(tree, asks, place, reasons)
            seen += reasons_in(reasons) > 1
            self.assertEqual(reasons_in(carried), reasons_in(reasons))
            self.assertIs(lets_reasons(there, wanted, worth, carried), True)
            self.assertIs(lets_reasons(there, wanted, worth - 1, carried), False)
        self.assertGreater(seen, 100)

    def test_reasons_of_thousands_in_depth(self):
        tree, asks = ([0, 1, 2], [7, 8, 9]), [(0, 3, 8, 1)]
        leaf, leaf_there = ("prices", 4, [1, 2, 3]), ("prices", 4, [2, 3, 1])
        for side in (2, 3):
            for many in (1000, 3999, 50000):
                reasons = ("full", 1)
                for turn in range(many):
                    reasons = ("split", 0, reasons, leaf) if side == 2 else ("split", 0, leaf, reasons)
                told = hung_reasons(tree, asks, 2, reasons)
                for turn in range(many):
                    self.assertEqual((told[0], told[1], told[5 - side]), ("split", 0, leaf_there))
                    told = told[side]
                self.assertEqual(told, ("full", 3))

    def test_one_tuple_in_many_places(self):
        tree, asks = row(3), [(0, 3, 1, 1)] * 8
        reasons = ("prices", 4, [1, 2, 3])
        for number in range(8):
            reasons = ("split", number, reasons, reasons)
        told = hung_reasons(tree, asks, 2, reasons)
        found = lists_within(told)
        self.assertEqual(len(found), 256)
        for number, one in enumerate(found):
            self.assertEqual(one, [2, 3, 1])
            one.append(number)
        self.assertEqual([one[-1] for one in found], list(range(256)))

    def test_best_keeps_are_worth_as_much(self):
        for seed, tree in enumerate([row(5, 2), star(5, 1)] + big_trees(4, 3, 4)):
            asks = one_way_asks(tree, 12, seed, 9)
            worth = worth_of(tree, asks, best_keep(tree, asks)[0])
            keep, prices = best_keep(tree, asks)
            for place in range(len(tree[0]) + 1):
                there, order = hung(tree, place)
                wanted = hung_asks(tree, asks, place)
                self.assertEqual(worth_of(there, wanted, best_keep(there, wanted)[0]), worth)
                self.assertEqual(bound_of(there, wanted, hung_prices(tree, place, prices)), (worth, 1))

    def test_sought_ones_are_worth_as_much(self):
        for seed, tree in enumerate(some_trees(10, 8)):
            asks = some_asks(tree, 8, seed)
            worth = worth_of(tree, asks, seek(tree, asks, 4000)[1])
            for place in range(len(tree[0]) + 1):
                there, order = hung(tree, place)
                wanted = hung_asks(tree, asks, place)
                self.assertEqual(worth_of(there, wanted, seek(there, wanted, 4000)[1]), worth)


def with_place():
    """Each function with what it is handed but the tree, asks and place; whether it is handed asks."""
    reasons = ("split", 0, ("full", 1), ("prices", 1, [0] * 8))
    return [(hung, False, ()), (hung_asks, True, ()), (hung_prices, False, (PRICES,)), (hung_cut, False, ([2, 1],)),
            (hung_pointing, True, (["up"] * 8,)), (hung_ring, True, ([(1, 0), (2, 0), (4, 0)],)),
            (hung_reasons, True, (reasons,))]


class Refusals(unittest.TestCase):
    def handed(self, function, has_asks, tree, asks, place, rest):
        return function(tree, *((asks, place) if has_asks else (place,)), *rest)

    def test_no_place(self):
        for place in odd_things() + [-1, 9, 24, 10 ** 59, -10 ** 59, Odd(), (0,), "0"]:
            for function, has_asks, rest in with_place():
                with self.subTest(place=place, function=function.__name__), self.assertRaises(NoPlace):
                    self.handed(function, has_asks, bush(), [(0, 1, 1, 1)], place, rest)

    def test_tree_then_asks_then_place_then_the_rest(self):
        for function, has_asks, rest in with_place():
            for place in (None, 0):
                for asks in (None, []):
                    with self.assertRaises(NoTree) as caught:
                        self.handed(function, has_asks, ([0, 2], [1, 1]), asks, place, rest)
                    self.assertEqual((caught.exception.part, caught.exception.number), ("parents", 1))
                if has_asks:
                    with self.assertRaises(NoAsks) as caught:
                        self.handed(function, has_asks, bush(), [(0, 1, 1, 1), (0, 9, 1, 1)], place, rest)
                    self.assertEqual(caught.exception.number, 1)
            for bad in (None, [], [(1, 0)]):
                with self.assertRaises(NoPlace):
                    self.handed(function, has_asks, bush(), [], None, (bad,) if rest else ())

    def test_no_prices(self):
        for prices, number in ((None, None), (PRICES[:7], 7), (PRICES + [(0, 1)], 8), ([(-1, 1)] + PRICES[1:], 0)):
            with self.assertRaises(NoPrices) as caught:
                hung_prices(bush(), 4, prices)
            self.assertEqual(caught.exception.number, number)


class Own(unittest.TestCase):
    def test_nothing_is_changed_and_lists_are_new(self):
        asks = ones(some_asks(bush(), 7))
        reasons = ("split", 0, ("prices", 1, [1] * 8), ("split", 1, ("full", 1), ("prices", 1, [1] * 8)))
        for place in (0, 4, 8):
            check_own(self, hung, bush(), place)
            check_own(self, hung_asks, bush(), asks, place)
            check_own(self, hung_prices, bush(), place, PRICES)
            check_own(self, hung_cut, bush(), place, [4, 1, 2])
            check_own(self, hung_pointing, bush(), asks, place, ["up", "down"] * 4)
            check_own(self, hung_ring, bush(), asks, place, [(1, 0), (2, 1), (4, 0)])
            check_own(self, hung_reasons, bush(), asks, place, copy.deepcopy(reasons))


if __name__ == "__main__":
    unittest.main()
