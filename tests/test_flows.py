import copy
import itertools
import unittest

from tests.cases import Odd, bush, odd_things, row, some_asks, some_trees, star, ties_of
from treeasks.errors import NoAsks, NoTree
from treeasks.flows import is_flow

# Ties 1 and 2 hang from the root, tie 3 beneath 1.
TREE = ([0, 0, 1], [3, 5, 2])
ASKS = [(1, 2, 1, 1), (3, 2, 9, 10 ** 12), (3, 0, 1, 1)]


def by_hand(tree, asks, flow):
    for tie, room in enumerate(tree[1], 1):
        if sum(often for ask, often in zip(asks, flow) if tie in ties_of(tree, ask)) > room:
            return False
    return True


class Flows(unittest.TestCase):
    def test_told_ones(self):
        for flow in ([0, 0, 0], [1, 1, 1], [3, 0, 0], [0, 2, 0], [0, 0, 2], [1, 2, 0], [2, 1, 0]):
            self.assertIs(is_flow(TREE, ASKS, flow), True)

    def test_just_the_room_and_once_more(self):
        for room in (1, 2, 10 ** 6):
            for flow in ([room], [room - 1]):
                self.assertIs(is_flow(row(1, room), [(0, 1, 1, 1)], flow), True)
            self.assertIs(is_flow(row(1, room), [(0, 1, 1, 1)], [room + 1]), False)
        self.assertIs(is_flow(TREE, ASKS, [2, 1, 1]), False)
        self.assertIs(is_flow(TREE, ASKS, [0, 1, 2]), False)
        self.assertIs(is_flow(TREE, ASKS, [4, 0, 0]), False)
        asks = [(0, 2, 1, 1)] * 3
        self.assertIs(is_flow(star(2, 5), asks, [2, 2, 1]), True)
        self.assertIs(is_flow(star(2, 5), asks, [2, 2, 2]), False)

    def test_any_tie(self):
        for tie in range(1, 9):
            tree = (bush()[0], [9] * 8)
            tree[1][tie - 1] = 2
            asks = [(tie, bush()[0][tie - 1], 1, 1)]
            self.assertIs(is_flow(tree, asks, [2]), True)
            self.assertIs(is_flow(tree, asks, [3]), False)

    def test_sizes_and_worths_do_not_count(self):
        for size, worth in ((1, 1), (10 ** 6, 1), (1, 10 ** 12), (10 ** 6, 10 ** 12)):
            self.assertIs(is_flow(row(2, 3), [(0, 2, size, worth)], [3]), True)
            self.assertIs(is_flow(row(2, 3), [(0, 2, size, worth)], [4]), False)

    def test_no_asks(self):
        self.assertIs(is_flow(bush(), [], []), True)
        self.assertIs(is_flow(bush(), [], [0]), False)

    def test_by_hand(self):
        for seed, tree in enumerate(some_trees(20, 6, 3)):
            asks = some_asks(tree, 4, seed)
            for flow in itertools.product(range(4), repeat=4):
                self.assertIs(is_flow(tree, asks, list(flow)), by_hand(tree, asks, flow))

    def test_nothing_is_changed(self):
        things = copy.deepcopy((TREE, ASKS, [1, 1, 1]))
        for turn in range(2):
            self.assertIs(is_flow(*things), True)
            self.assertEqual(things, (TREE, ASKS, [1, 1, 1]))


class NoFlows(unittest.TestCase):
    def none(self, thing):
        with self.subTest(thing=thing):
            self.assertIs(is_flow(TREE, ASKS, thing), False)

    def test_lengths(self):
        for many in (0, 1, 2, 4, 5, 31):
            self.none([0] * many)

    def test_below_nought(self):
        for place in range(3):
            for bad in (-1, -2, -10 ** 59):
                flow = [0, 0, 0]
                flow[place] = bad
                self.none(flow)
        self.none([3, -1, 1])
        self.none([-1, 2, 2])

    def test_greatest(self):
        self.none([0, 0, 10 ** 59])

    def test_things_of_other_kinds(self):
        for thing in odd_things() + ["000", (0, 0, 0), {0: 0, 1: 0, 2: 0}, 0, Odd()]:
            self.none(thing)
            for place in range(3):
                if thing != 0 or isinstance(thing, bool):
                    flow = [0, 0, 0]
                    flow[place] = thing
                    self.none(flow)
        self.none([(0, 1), (0, 1), (0, 1)])

    def test_tree_and_asks_ahead(self):
        for thing in (None, [0, 0, 0], []):
            for asks in (ASKS, None):
                with self.assertRaises(NoTree):
                    is_flow(([0, 1], [1, 0]), asks, thing)
            with self.assertRaises(NoAsks) as caught:
                is_flow(TREE, [ASKS[0], (2, 2, 1, 1)], thing)
            self.assertEqual(caught.exception.number, 1)


if __name__ == "__main__":
    unittest.main()
