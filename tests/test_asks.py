import copy
import unittest

from tests.cases import Odd, bush, odd_things, row, some_asks, some_trees, star
from treeasks.asks import look_at_asks
from treeasks.errors import NoAsks, NoTree

GOOD = (0, 1, 1, 1)


def bad_asks(ties):
    """Things that are no asks for a tree of so many ties."""
    bad = odd_things() + [0, 7]
    bad += [list(GOOD), GOOD[:3], GOOD + (1,), ((0, 1), 1, 1, 1)]
    bad += [(0, 0, 1, 1), (1, 1, 1, 1), (0, ties + 1, 1, 1), (ties + 1, 0, 1, 1), (ties + 1, ties + 2, 1, 1)]
    bad += [(-1, 0, 1, 1), (0, -1, 1, 1), (True, 0, 1, 1), (0, True, 1, 1), (False, 1, 1, 1), (1, False, 1, 1)]
    for number in (0, -1, True, False, "1", None, [1], (1,), Odd()):
        bad += [(0, 1, number, 1), (0, 1, 1, number)]
    for number in ("1", None, [1], (1,), {}, Odd()):
        bad += [(number, 1, 1, 1), (1, number, 1, 1)]
    return bad + [(0, 1, 10 ** 6 + 1, 1), (0, 1, 1, 10 ** 12 + 1), (0, 1, 10 ** 59, 1), (0, 1, 1, 10 ** 59)]


class Looking(unittest.TestCase):
    def refused(self, tree, thing, number):
        with self.subTest(thing=thing):
            with self.assertRaises(NoAsks) as caught:
                look_at_asks(tree, thing)
            self.assertEqual(caught.exception.number, number)

    def test_asks(self):
        for tree in [row(1), star(23), bush()] + some_trees(10):
            for many in (0, 1, 2, 29, 30):
                asks = some_asks(tree, many)
                kept = copy.deepcopy((tree, asks))
                self.assertIsNone(look_at_asks(tree, asks))
                self.assertEqual((tree, asks), kept)

    def test_edges(self):
        for ask in ((0, 1, 1, 1), (23, 0, 1, 1), (22, 23, 10 ** 6, 10 ** 12)):
            self.assertIsNone(look_at_asks(row(23), [ask]))

    def test_no_list(self):
        for thing in odd_things() + [0, 3, (GOOD,), {0: GOOD}, "", GOOD]:
            if not isinstance(thing, list):
                self.refused(row(2), thing, None)

    def test_more_than_thirty(self):
        self.refused(row(2), [GOOD] * 31, None)
        self.refused(row(2), [None] * 31, None)
        self.refused(row(2), [GOOD] * 100, None)

    def test_a_bad_one_at_each_place(self):
        for place in (0, 1, 5, 29):
            for bad in bad_asks(2):
                asks = [GOOD] * 30
                asks[place] = bad
                self.refused(row(2), asks, place)

    def test_a_bad_one_alone(self):
        for tree in (row(1), star(23), bush()):
            for bad in bad_asks(len(tree[0])):
                self.refused(tree, [bad], 0)

    def test_first_of_several(self):
        self.refused(row(2), [GOOD, (0, 0, 1, 1), None, GOOD], 1)
        self.refused(row(2), [GOOD, GOOD, (0, 3, 1, 1), [0, 1, 1, 1]], 2)
        self.refused(row(2), [None, None], 0)

    def test_tree_ahead_of_asks(self):
        for asks in (None, [], [None], [GOOD] * 31):
            with self.assertRaises(NoTree) as caught:
                look_at_asks(([0, 2], [1, 1]), asks)
            self.assertEqual((caught.exception.part, caught.exception.number), ("parents", 1))
            with self.assertRaises(NoTree):
                look_at_asks(None, asks)


if __name__ == "__main__":
    unittest.main()
