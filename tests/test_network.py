import unittest

from treeasks.network import path_marks, shortest

ARCS = [(0, 1, 4, "a"), (0, 2, 1, "b"), (2, 1, -3, "c"), (1, 3, 2, "d"), (3, 2, 1, "e"), (4, 0, -9, "f")]


class Paths(unittest.TestCase):
    def test_from_one_place(self):
        far, last = shortest(ARCS, [0, None, None, None, None])
        self.assertEqual(far, [0, -2, 1, 0, None])
        self.assertEqual(path_marks(last, 3), ["d", "c", "b"])
        self.assertEqual(path_marks(last, 0), [])

    def test_from_all_places(self):
        far, last = shortest(ARCS, [0] * 5)
        self.assertEqual(far, [-9, -11, -8, -9, 0])
        self.assertEqual(path_marks(last, 2), ["b", "f"])

    def test_as_many_arcs_as_there_are_places_but_one_and_the_worst_order(self):
        arcs = [(place, place + 1, -1, place) for place in range(22, -1, -1)]
        far, last = shortest(arcs, [0] + [None] * 23)
        self.assertEqual(far, [-place for place in range(24)])
        self.assertEqual(path_marks(last, 23), list(range(22, -1, -1)))

    def test_no_arcs(self):
        self.assertEqual(shortest([], [None, 0]), ([None, 0], [None, None]))

    def test_starts_stay(self):
        starts = [0] * 5
        shortest(ARCS, starts)
        self.assertEqual(starts, [0] * 5)


if __name__ == "__main__":
    unittest.main()
