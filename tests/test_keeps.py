import copy
import itertools
import unittest

from tests.cases import Odd, bush, odd_things, row, some_asks, some_trees
from treeasks.errors import NoAsks, NoKeep, NoTree
from treeasks.keeps import first_over, loads, look_at_keep, worth_of
from treeasks.ways import way_between

ALL = (look_at_keep, loads, first_over, worth_of)
ASKS = [(6, 3, 1, 10), (7, 8, 2, 20), (0, 8, 3, 30), (1, 2, 1, 40)]


class Loads(unittest.TestCase):
    def test_none_some_and_all(self):
        self.assertEqual(loads(bush(), ASKS, []), [0] * 8)
        self.assertEqual(loads(bush(), ASKS, [1]), [2, 2, 0, 2, 2, 0, 2, 2])
        self.assertEqual(loads(bush(), ASKS, [0, 3]), [1, 1, 1, 1, 0, 1, 0, 0])
        self.assertEqual(loads(bush(), ASKS, [0, 1, 2, 3]), [3, 6, 1, 3, 5, 1, 2, 5])

    def test_no_asks(self):
        self.assertEqual(loads(row(3), [], []), [0, 0, 0])
        self.assertIsNone(first_over(row(3), [], []))
        self.assertEqual(worth_of(row(3), [], []), 0)

    def test_by_each_tie(self):
        for seed, tree in enumerate(some_trees(15)):
            asks = some_asks(tree, 30, seed)
            for keep in (list(range(30)), list(range(0, 30, 3)), [0], [29], []):
                told = [sum(asks[k][2] for k in keep if tie in way_between(tree, asks[k][0], asks[k][1]))
                        for tie in range(1, len(tree[0]) + 1)]
                self.assertEqual(loads(tree, asks, keep), told)

    def test_handed_things_stay_and_told_list_is_new(self):
        tree, asks, keep = bush(), list(ASKS), [0, 1, 2]
        kept = copy.deepcopy((tree, asks, keep))
        first = loads(tree, asks, keep)
        again = list(first)
        first.clear()
        first_over(tree, asks, keep)
        worth_of(tree, asks, keep)
        self.assertEqual((tree, asks, keep), kept)
        self.assertEqual(loads(tree, asks, keep), again)


class FirstOver(unittest.TestCase):
    def test_told_ones(self):
        self.assertIsNone(first_over(bush(), ASKS, []))
        self.assertIsNone(first_over(bush(), ASKS, [0, 1]))
        self.assertEqual(first_over(bush(), ASKS, [1, 2]), 5)
        self.assertEqual(first_over(bush(), ASKS, [0, 1, 2, 3]), 5)

    def test_a_load_that_is_just_its_room(self):
        asks = [(0, 1, 3, 1), (0, 1, 2, 1), (0, 1, 1, 1)]
        self.assertIsNone(first_over(([0], [5]), asks, [0, 1]))
        self.assertEqual(first_over(([0], [5]), asks, [0, 1, 2]), 1)

    def test_the_first_of_several(self):
        tree = (list(range(5)), [3, 2, 3, 1, 1])
        self.assertEqual(first_over(tree, [(0, 5, 3, 1)], [0]), 2)
        self.assertEqual(first_over(tree, [(3, 5, 3, 1)], [0]), 4)
        self.assertEqual(first_over(tree, [(4, 5, 2, 1)], [0]), 5)
        self.assertEqual(first_over(tree, [(5, 0, 4, 1)], [0]), 1)

    def test_by_loads(self):
        for seed, tree in enumerate(some_trees(30, 6)):
            asks = some_asks(tree, 4, seed)
            for many in range(5):
                for keep in itertools.combinations(range(4), many):
                    load = loads(tree, asks, list(keep))
                    over = [tie for tie in range(1, len(load) + 1) if load[tie - 1] > tree[1][tie - 1]]
                    self.assertEqual(first_over(tree, asks, list(keep)), over[0] if over else None)


class Worths(unittest.TestCase):
    def test_none_some_and_all(self):
        self.assertEqual(worth_of(bush(), ASKS, []), 0)
        self.assertEqual(worth_of(bush(), ASKS, [1]), 20)
        self.assertEqual(worth_of(bush(), ASKS, [0, 3]), 50)
        self.assertEqual(worth_of(bush(), ASKS, [0, 1, 2, 3]), 100)

    def test_greatest(self):
        asks = [(0, 1, 1, 10 ** 12)] * 30
        self.assertEqual(worth_of(row(1), asks, list(range(30))), 30 * 10 ** 12)


class Refusals(unittest.TestCase):
    def refused(self, asks, thing, number):
        for ask in ALL:
            with self.subTest(ask=ask.__name__, thing=thing):
                with self.assertRaises(NoKeep) as caught:
                    ask(bush(), asks, thing)
                self.assertEqual(caught.exception.number, number)

    def test_keeps(self):
        for many in range(5):
            for keep in itertools.combinations(range(4), many):
                self.assertIsNone(look_at_keep(bush(), ASKS, list(keep)))

    def test_no_list(self):
        for thing in odd_things() + [0, 1, (0, 1), (), "01", {0: 1}]:
            if not isinstance(thing, list):
                self.refused(ASKS, thing, None)

    def test_things_that_cannot_stand_there(self):
        self.refused(ASKS, [0, 0], 1)
        self.refused(ASKS, [0, 1, 3, 3], 3)
        self.refused(ASKS, [0, 2, 1, 3], 2)
        self.refused(ASKS, [3, 0], 1)
        self.refused(ASKS, [4], 0)
        self.refused(ASKS, [0, 1, 2, 3, 4], 4)
        self.refused(ASKS, [-1], 0)
        self.refused(ASKS, [-1, 0], 0)
        self.refused(ASKS, [0, -1], 1)
        self.refused(ASKS, [10 ** 59], 0)
        self.refused([], [0], 0)

    def test_things_of_other_kinds(self):
        for bad in odd_things() + [(0, 1), Odd()]:
            self.refused(ASKS, [bad], 0)
            self.refused(ASKS, [0, bad, 3], 1)
            self.refused(ASKS, [0, 1, 2, bad], 3)

    def test_the_first_of_several(self):
        self.refused(ASKS, [0, 0, None], 1)
        self.refused(ASKS, [1, 2, True, 2, -1], 2)
        self.refused(ASKS, [9, 0, 0], 0)

    def test_what_is_refused_stays(self):
        keep = [0, 2, 1]
        self.refused(ASKS, keep, 2)
        self.assertEqual(keep, [0, 2, 1])

    def test_tree_then_asks_then_keep(self):
        for ask in ALL:
            for keep in (None, [], [9], [0, 0]):
                for asks in (ASKS, None, [None]):
                    with self.assertRaises(NoTree):
                        ask(([0, 1], [1, 0]), asks, keep)
                with self.assertRaises(NoAsks) as caught:
                    ask(bush(), [ASKS[0], None], keep)
                self.assertEqual(caught.exception.number, 1)


if __name__ == "__main__":
    unittest.main()
