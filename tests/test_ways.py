import copy
import unittest

from tests.cases import Odd, bush, odd_things, row, some_trees, star
from treeasks.errors import NoPlace, NoTree
from treeasks.ways import is_beneath, meeting_of, tops_between, way_between

BETWEEN = (way_between, meeting_of, tops_between)


def to_root(tree, place):
    """The ties from a place to the root, from below."""
    return [] if place == 0 else [place] + to_root(tree, tree[0][place - 1])


def trees():
    return [row(1), row(2), row(23), star(1), star(23), bush()] + some_trees(12)


def pairs(tree):
    places = range(len(tree[0]) + 1)
    return [(one, other) for one in places for other in places if one != other]


class Ways(unittest.TestCase):
    def test_told_ones(self):
        self.assertEqual(way_between(bush(), 7, 8), [1, 2, 4, 5, 7, 8])
        self.assertEqual(way_between(bush(), 6, 3), [3, 4, 6])
        self.assertEqual(way_between(bush(), 6, 1), [4, 6])
        self.assertEqual(way_between(bush(), 0, 8), [2, 5, 8])
        self.assertEqual(way_between(row(23), 23, 0), list(range(1, 24)))
        self.assertEqual(way_between(star(23), 4, 22), [4, 22])

    def test_ways_are_the_ties_above_one_end_alone(self):
        for tree in trees():
            for one, other in pairs(tree):
                told = sorted(set(to_root(tree, one)) ^ set(to_root(tree, other)))
                self.assertEqual(way_between(tree, one, other), told)

    def test_meetings(self):
        self.assertEqual(meeting_of(bush(), 7, 8), 0)
        self.assertEqual(meeting_of(bush(), 6, 3), 1)
        self.assertEqual(meeting_of(bush(), 6, 1), 1)
        self.assertEqual(meeting_of(bush(), 1, 6), 1)
        self.assertEqual(meeting_of(bush(), 0, 8), 0)
        self.assertEqual(meeting_of(row(23), 23, 22), 22)
        for tree in trees():
            for one, other in pairs(tree):
                below = to_root(tree, one) + [0]
                told = [place for place in below if place in to_root(tree, other) + [0]][0]
                self.assertEqual(meeting_of(tree, one, other), told)

    def test_top_ties(self):
        self.assertEqual(tops_between(bush(), 7, 8), [1, 2])
        self.assertEqual(tops_between(bush(), 8, 7), [1, 2])
        self.assertEqual(tops_between(bush(), 6, 3), [3, 4])
        self.assertEqual(tops_between(bush(), 6, 1), [4])
        self.assertEqual(tops_between(bush(), 0, 8), [2])
        for tree in trees():
            for one, other in pairs(tree):
                meeting = meeting_of(tree, one, other)
                told = [tie for tie in way_between(tree, one, other) if tree[0][tie - 1] == meeting]
                self.assertEqual(tops_between(tree, one, other), told)
                self.assertEqual(len(told), 1 if meeting in (one, other) else 2)

    def test_handed_tree_stays_and_told_lists_are_new(self):
        for ask in (way_between, tops_between):
            tree = bush()
            kept = copy.deepcopy(tree)
            first = ask(tree, 6, 8)
            again = list(first)
            first.clear()
            self.assertEqual(tree, kept)
            self.assertEqual(ask(tree, 6, 8), again)


class Beneath(unittest.TestCase):
    def test_told_ones(self):
        self.assertIs(is_beneath(bush(), 7, 1), True)
        self.assertIs(is_beneath(bush(), 7, 4), True)
        self.assertIs(is_beneath(bush(), 4, 7), False)
        self.assertIs(is_beneath(bush(), 7, 6), False)
        self.assertIs(is_beneath(bush(), 8, 1), False)
        self.assertIs(is_beneath(row(23), 23, 1), True)
        self.assertIs(is_beneath(row(23), 1, 23), False)

    def test_alike_ties(self):
        for tree in trees():
            for tie in range(1, len(tree[0]) + 1):
                self.assertIs(is_beneath(tree, tie, tie), False)

    def test_all_pairs(self):
        for tree in trees():
            for one, other in pairs(tree):
                if one != 0 and other != 0:
                    self.assertIs(is_beneath(tree, one, other), other in to_root(tree, one))


class Refusals(unittest.TestCase):
    def test_no_places(self):
        for ask in BETWEEN:
            for bad in odd_things() + [-1, 9, 10 ** 59, (0, 1), Odd()]:
                for one, other in ((bad, 1), (1, bad), (0, bad), (bad, 0), (bad, bad)):
                    with self.subTest(ask=ask.__name__, one=one, other=other), self.assertRaises(NoPlace):
                        ask(bush(), one, other)

    def test_alike_places(self):
        for ask in BETWEEN:
            for place in range(9):
                with self.assertRaises(NoPlace):
                    ask(bush(), place, place)

    def test_no_ties(self):
        for bad in odd_things() + [0, -1, 9, 10 ** 59, (1, 1), Odd()]:
            for one, other in ((bad, 1), (1, bad), (bad, 8), (8, bad), (bad, bad)):
                with self.subTest(one=one, other=other), self.assertRaises(NoPlace):
                    is_beneath(bush(), one, other)

    def test_edges(self):
        self.assertEqual(way_between(row(1), 0, 1), [1])
        self.assertIs(is_beneath(row(1), 1, 1), False)
        for ask in BETWEEN:
            with self.assertRaises(NoPlace):
                ask(row(1), 0, 2)
        with self.assertRaises(NoPlace):
            is_beneath(row(1), 1, 2)

    def test_tree_ahead_of_places(self):
        for ask in BETWEEN + (is_beneath,):
            for one, other in ((0, 1), (1, 2), (None, None), (1, 1), (0, 0), (99, "x")):
                with self.assertRaises(NoTree):
                    ask(([0, 1], [1, 0]), one, other)
                with self.assertRaises(NoTree):
                    ask(None, one, other)


if __name__ == "__main__":
    unittest.main()
