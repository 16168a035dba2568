import copy
import itertools
import unittest

from tests.cases import Odd, bush, check_own, odd_things, path, row, some_asks, some_trees, star
from treeasks.errors import NoAsks, NoTree
from treeasks.pointings import is_pointing
from treeasks.rings import is_ring, pointed

# Ties 1, 2 and 3 hang from the root, tie 4 beneath 1, tie 5 beneath 4.
TREE = ([0, 0, 0, 1, 4], [1, 1, 1, 1, 1])
ASKS = [(5, 2, 1, 1), (2, 3, 1, 1), (3, 1, 1, 1), (5, 0, 1, 1)]
THREE = [(1, 0), (2, 1), (3, 2)]
FOUR = [(1, 0), (4, 0), (2, 1), (3, 2)]


def above(tree, tie):
    return [] if tree[0][tie - 1] == 0 else [tree[0][tie - 1]] + above(tree, tree[0][tie - 1])


def ring_by_hand(tree, asks, ring):
    """Of a list of tuples of two whole numbers."""
    apart = 0
    for place, (tie, number) in enumerate(ring):
        following = ring[(place + 1) % len(ring)][0]
        if not 0 <= number < len(asks) or tie == following:
            return False
        way = [step for step, text in path(tree, asks[number][0], asks[number][1])]
        if tie not in way or following not in way:
            return False
        apart += tie not in above(tree, following) and following not in above(tree, tie)
    return apart % 2 == 1


def some_pointing(tree, asks):
    """Whether one of all pointings, gone through one by one, is one."""
    for pointing in itertools.product(("up", "down"), repeat=len(tree[0]) - 1):
        if is_pointing(tree, asks, ["up"] + list(pointing)):
            return True
    return False


class Rings(unittest.TestCase):
    def test_told_ones(self):
        for ring in (THREE, FOUR, [(5, 0), (2, 1), (3, 2), (1, 3)], [(1, 3), (5, 3), (4, 0), (2, 1), (3, 2)]):
            self.assertIs(is_ring(TREE, ASKS, ring), True)
            self.assertIs(is_ring(TREE, ASKS, ring[1:] + ring[:1]), True)
        self.assertIs(is_ring(TREE, ASKS, [(1, 2), (3, 1), (2, 0)]), True)

    def test_up_to_61(self):
        for turns in range(33):
            for ring in ([(1, 0), (2, 0)] * turns + THREE,
                         [(1, 0)] + [(4, 0), (5, 3)] * turns + [(4, 0), (2, 1), (3, 2)]):
                self.assertTrue(ring_by_hand(TREE, ASKS, ring))
                self.assertIs(is_ring(TREE, ASKS, ring), len(ring) <= 61)

    def test_60_61_and_62(self):
        self.assertIs(is_ring(TREE, ASKS, [(1, 0)] + [(4, 0), (5, 3)] * 28 + FOUR[1:]), True)
        self.assertIs(is_ring(TREE, ASKS, [(1, 0), (2, 0)] * 29 + THREE), True)
        self.assertIs(is_ring(TREE, ASKS, [(1, 0)] + [(4, 0), (5, 3)] * 29 + FOUR[1:]), False)

    def test_fewer_than_3(self):
        for ring in ([], [(1, 0)], [(1, 0), (2, 0)], [(1, 0), (4, 0)]):
            self.assertIs(is_ring(TREE, ASKS, ring), False)

    def test_an_even_number_apart(self):
        self.assertIs(is_ring(TREE, ASKS, [(1, 0), (4, 0), (5, 3)]), False)
        self.assertIs(is_ring(TREE, ASKS, [(1, 0), (4, 0), (2, 0)]), False)
        self.assertIs(is_ring(TREE, ASKS, [(1, 0), (2, 1), (3, 1), (2, 0)]), False)
        self.assertIs(is_ring(TREE, ASKS, THREE + THREE), False)
        self.assertIs(is_ring(TREE, ASKS, THREE + THREE + THREE), True)

    def test_alike_neighbours(self):
        self.assertIs(is_ring(TREE, ASKS, [(1, 0), (1, 0), (2, 1), (3, 2)]), False)
        self.assertIs(is_ring(TREE, ASKS, [(1, 0), (2, 1), (3, 2), (1, 0)]), False)
        self.assertIs(is_ring(TREE, ASKS, [(1, 0), (2, 1), (3, 2), (1, 2)]), False)

    def test_a_tie_that_is_not_on_the_way(self):
        for place in range(3):
            for number in range(4):
                ring = list(THREE)
                ring[place] = (ring[place][0], number)
                self.assertIs(is_ring(TREE, ASKS, ring), number == place)
        # By the ask of each tuple the tie is on the way, but the next one's tie is not, and the other way round.
        self.assertIs(is_ring(TREE, ASKS, [(1, 2), (2, 0), (3, 1)]), False)
        self.assertIs(is_ring(TREE, ASKS, [(1, 1), (2, 2), (3, 0)]), False)
        # The last one's next is the first.
        self.assertIs(is_ring(TREE, ASKS, [(4, 0), (2, 1), (3, 2)]), False)
        self.assertIs(is_ring(TREE, ASKS, [(1, 0), (2, 1), (3, 1)]), False)

    def test_by_hand(self):
        tree, asks = ([0, 0, 1], [1, 1, 1]), [(3, 2, 1, 1), (1, 2, 1, 1), (0, 3, 1, 1)]
        links = list(itertools.product(range(4), range(-1, 4)))
        for ring in itertools.product(links, repeat=3):
            whole = all(1 <= tie <= 3 and number >= 0 for tie, number in ring)
            self.assertIs(is_ring(tree, asks, list(ring)), whole and ring_by_hand(tree, asks, ring))
        for ring in itertools.product(itertools.product(range(1, 4), range(3)), repeat=4):
            self.assertIs(is_ring(tree, asks, list(ring)), ring_by_hand(tree, asks, ring))

    def test_nothing_is_changed(self):
        things = copy.deepcopy((TREE, ASKS, FOUR))
        for turn in range(2):
            self.assertIs(is_ring(*things), True)
            self.assertEqual(things, (TREE, ASKS, FOUR))


class NoRings(unittest.TestCase):
    def none(self, thing):
        with self.subTest(thing=thing):
            self.assertIs(is_ring(TREE, ASKS, thing), False)

    def test_numbers_of_no_tie_and_of_no_ask(self):
        for place in range(3):
            for bad in ((0, place), (-1, place), (6, place), (10 ** 59, place), (place + 1, -1), (place + 1, 4),
                        (place + 1, -4), (place + 1, 10 ** 59), (place - 5, place)):
                ring = list(THREE)
                ring[place] = bad
                self.none(ring)

    def test_truths(self):
        self.none([(True, 0), (2, 1), (3, 2)])
        self.none([(1, False), (2, 1), (3, 2)])
        self.none([(1, 0), (2, True), (3, 2)])

    def test_no_asks(self):
        self.assertIs(is_ring(TREE, [], THREE), False)
        self.assertIs(is_ring(TREE, [], [(1, -1), (2, -1), (3, -1)]), False)

    def test_lists_for_tuples(self):
        self.none([[1, 0], [2, 1], [3, 2]])
        self.none([(1, 0), (2, 1), [3, 2]])
        self.none(tuple(THREE))
        self.none([(1, 0, 0), (2, 1), (3, 2)])
        self.none([(1,), (2, 1), (3, 2)])
        self.none(dict(THREE))

    def test_things_of_other_kinds(self):
        for thing in odd_things() + [0, "123", (1, 0), Odd()]:
            self.none(thing)
            for place in range(3):
                for bad in (thing, (place + 1, thing), (thing, place)):
                    ring = list(THREE)
                    ring[place] = bad
                    if ring != THREE or isinstance(thing, bool):
                        self.none(ring)

    def test_tree_and_asks_ahead(self):
        for ask in (is_ring, lambda tree, asks, thing: pointed(tree, asks)):
            for thing in (None, THREE, []):
                for asks in (ASKS, None):
                    with self.assertRaises(NoTree):
                        ask(([0, 1], [1, 0]), asks, thing)
                with self.assertRaises(NoAsks) as caught:
                    ask(TREE, [ASKS[0], (2, 2, 1, 1)], thing)
                self.assertEqual(caught.exception.number, 1)


class Pointed(unittest.TestCase):
    def checked(self, tree, asks):
        told = pointed(tree, asks)
        with self.subTest(tree=tree, asks=asks):
            self.assertIsInstance(told, tuple)
            self.assertEqual(len(told), 2)
            self.assertIn(told[0], ("pointed", "ring"))
            good = is_pointing if told[0] == "pointed" else is_ring
            self.assertIs(good(tree, asks, told[1]), True)
            if told[0] == "ring":
                self.assertTrue(ring_by_hand(tree, asks, told[1]))
                # No promise, but a told ring is a short one.
                ties = [tie for tie, number in told[1]]
                self.assertEqual(len(ties), len(set(ties)))
        return told[0]

    def test_no_asks(self):
        for tree in (row(1), row(23), star(23), bush()):
            self.assertEqual(self.checked(tree, []), "pointed")

    def test_rows_are_pointed(self):
        for many in (1, 5, 30):
            self.assertEqual(self.checked(row(23), some_asks(row(23), many)), "pointed")

    def test_stars(self):
        self.assertEqual(self.checked(star(3), [(1, 2, 1, 1), (2, 3, 1, 1), (3, 1, 1, 1)]), "ring")
        self.assertEqual(self.checked(star(4), [(1, 2, 1, 1), (2, 3, 1, 1), (3, 4, 1, 1), (4, 1, 1, 1)]), "pointed")
        for ties in range(3, 24):
            asks = [(tie, tie % ties + 1, 1, 1) for tie in range(1, ties + 1)]
            self.assertEqual(self.checked(star(ties), asks), "ring" if ties % 2 == 1 else "pointed")
            self.assertEqual(self.checked(star(ties), asks[1:]), "pointed")

    def test_a_ring_through_ties_beneath(self):
        self.assertEqual(self.checked(TREE, ASKS), "ring")
        for number in range(3):
            self.assertEqual(self.checked(TREE, ASKS[:number] + ASKS[number + 1:]), "pointed")

    def test_just_where_one_of_all_pointings_is_one(self):
        seen = {"pointed": 0, "ring": 0}
        for seed, tree in enumerate([star(5), ([0, 0, 1, 1, 2, 2], [1] * 6)] + some_trees(60, 7, seed=5)):
            for many in range(1, 9):
                asks = some_asks(tree, many, 100 * seed + many)
                answer = self.checked(tree, asks)
                self.assertEqual(answer == "pointed", some_pointing(tree, asks))
                seen[answer] += 1
        self.assertGreater(min(seen.values()), 40)

    def test_23_ties_and_30_asks(self):
        seen = {"pointed": 0, "ring": 0}
        for seed, tree in enumerate(some_trees(200, 23)):
            tree = (tree[0] + [len(tree[0])] * (23 - len(tree[0])), [1] * 23)
            seen[self.checked(tree, some_asks(tree, 30, seed))] += 1
        self.assertGreater(min(seen.values()), 0)

    def test_nothing_is_changed_and_lists_are_new(self):
        check_own(self, pointed, copy.deepcopy(TREE), list(ASKS))
        check_own(self, pointed, copy.deepcopy(TREE), ASKS[1:])
        check_own(self, pointed, row(3), [])


if __name__ == "__main__":
    unittest.main()
