import copy
import unittest

from tests.cases import Odd, bush, odd_things, row, some_trees, star
from treeasks.errors import NoTree
from treeasks.trees import depths, look_at_tree


class Depths(unittest.TestCase):
    def test_rows(self):
        for ties in range(1, 24):
            self.assertEqual(depths(row(ties)), list(range(ties + 1)))

    def test_stars(self):
        for ties in range(1, 24):
            self.assertEqual(depths(star(ties)), [0] + [1] * ties)

    def test_bush(self):
        self.assertEqual(depths(bush()), [0, 1, 1, 2, 2, 2, 3, 3, 3])

    def test_each_place_lies_one_beneath_its_parent(self):
        for tree in some_trees(60):
            found = depths(tree)
            self.assertEqual(len(found), len(tree[0]) + 1)
            self.assertEqual(found[0], 0)
            for k, parent in enumerate(tree[0]):
                self.assertEqual(found[k + 1], found[parent] + 1)

    def test_handed_tree_stays_and_told_list_is_new(self):
        tree = bush()
        kept = copy.deepcopy(tree)
        first = depths(tree)
        again = list(first)
        first.clear()
        self.assertEqual(tree, kept)
        self.assertEqual(depths(tree), again)


class Looking(unittest.TestCase):
    def refused(self, thing, part, number):
        for ask in (look_at_tree, depths):
            with self.subTest(thing=thing, ask=ask.__name__):
                with self.assertRaises(NoTree) as caught:
                    ask(thing)
                self.assertEqual((caught.exception.part, caught.exception.number), (part, number))

    def test_trees(self):
        for tree in [row(1), row(23), star(1), star(23), bush(), ([0], [1]), ([0], [10 ** 6])] + some_trees(30):
            kept = copy.deepcopy(tree)
            self.assertIsNone(look_at_tree(tree))
            self.assertEqual(tree, kept)

    def test_other_kinds(self):
        for thing in odd_things() + [0, 5, [[0], [1]], "01"]:
            self.refused(thing, "tree", None)

    def test_tuples_of_another_length(self):
        for thing in ((), ([0],), ([0], [1], [1]), (([0], [1]),)):
            self.refused(thing, "tree", None)

    def test_parts_of_other_kinds(self):
        for thing in (None, True, 0, "0", (0,), {0: 1}, {1}, b"1", Odd(), range(1)):
            self.refused((thing, [1]), "tree", None)
            self.refused(([0], thing), "tree", None)

    def test_lengths(self):
        for parents, rooms in ((0, 0), (0, 1), (1, 0), (1, 2), (2, 1), (23, 24), (24, 23), (24, 24), (25, 25)):
            self.refused(([0] * parents, [1] * rooms), "tree", None)

    def test_lengths_ahead_of_parents_and_rooms(self):
        self.refused(([5, 5], [0]), "tree", None)
        self.refused(([True] * 24, [0] * 24), "tree", None)

    def test_bad_parents(self):
        for k in range(1, 24):
            for bad in (k, k + 1, k + 30, -1, True, False, "0", None, [0], (0,), Odd()):
                parents, rooms = row(23)
                parents[k - 1] = bad
                self.refused((parents, rooms), "parents", k - 1)

    def test_parents_that_reach_the_edges(self):
        for k in range(1, 24):
            for good in (0, k - 1):
                parents, rooms = star(23)
                parents[k - 1] = good
                self.assertIsNone(look_at_tree((parents, rooms)))

    def test_bad_rooms(self):
        for k in range(1, 24):
            for bad in (0, -1, 10 ** 6 + 1, 10 ** 59, True, False, "1", None, [1], Odd()):
                parents, rooms = row(23)
                rooms[k - 1] = bad
                self.refused((parents, rooms), "rooms", k - 1)

    def test_parents_ahead_of_rooms(self):
        self.refused(([0, 0, 3], [0, 1, 1]), "parents", 2)
        self.refused(([0, None], [True, 1]), "parents", 1)

    def test_first_of_several(self):
        self.refused(([0, 2, 5, -1], [1, 1, 1, 1]), "parents", 1)
        self.refused(([0, 1, 5, True], [1, 1, 1, 1]), "parents", 2)
        self.refused(([0, 1, 2, 3], [1, 1, 0, 10 ** 7]), "rooms", 2)
        self.refused(([0, 1, 2, 3], [None, 0, 0, 0]), "rooms", 0)

    def test_refused_things_stay(self):
        thing = ([0, 4], [0, "x"])
        self.refused(thing, "parents", 1)
        self.assertEqual(thing, ([0, 4], [0, "x"]))


if __name__ == "__main__":
    unittest.main()
