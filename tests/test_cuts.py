import copy
import itertools
import unittest

from tests.cases import Odd, bush, check_own, meeting_depth, odd_things, row, some_asks, some_trees, star, ties_of
from treeasks.cuts import flow_and_cut, is_flow_paper, parts_all
from treeasks.errors import NoAsks, NoTree
from treeasks.flows import is_flow

# Ties 1 and 2 hang from the root, tie 3 beneath 1.
TREE = ([0, 0, 1], [3, 5, 2])
ASKS = [(1, 2, 1, 1), (3, 2, 9, 10 ** 12), (3, 0, 1, 1)]


def parts_by_hand(tree, asks, cut):
    return all(set(ties_of(tree, ask)) & set(cut) for ask in asks)


def rooms(tree, cut):
    return sum(tree[1][tie - 1] for tie in cut)


def all_cuts(tree):
    ties = range(1, len(tree[0]) + 1)
    return [list(cut) for many in range(len(ties) + 1) for cut in itertools.combinations(ties, many)]


def by_hand(tree, asks):
    flow = [0] * len(asks)
    filled = []
    for number in sorted(range(len(asks)), key=lambda number: (-meeting_depth(tree, asks[number]), number)):
        def left(tie):
            return tree[1][tie - 1] - sum(
                often for ask, often in zip(asks, flow) if tie in ties_of(tree, ask))
        way = ties_of(tree, asks[number])
        flow[number] = min([left(tie) for tie in way])
        for tie in way:
            if left(tie) == 0 and tie not in filled:
                filled.append(tie)
    for tie in filled[::-1]:
        if parts_by_hand(tree, asks, [other for other in filled if other != tie]):
            filled = [other for other in filled if other != tie]
    return flow, sorted(filled)


def refused_alike(case, ask):
    """A tree that is none, then asks that are none, ahead of all else."""
    for thing in (None, [0, 0, 0], [], ([0, 0, 0], [1])):
        for asks in (ASKS, None, []):
            with case.assertRaises(NoTree) as caught:
                ask(([0, 1], [1, 0]), asks, thing)
            case.assertEqual((caught.exception.part, caught.exception.number), ("rooms", 1))
        for asks, number in ((None, None), (tuple(ASKS), None), (ASKS + [(2, 2, 1, 1)], 3), ([ASKS[0]] * 31, None)):
            with case.assertRaises(NoAsks) as caught:
                ask(TREE, asks, thing)
            case.assertEqual(caught.exception.number, number)


class Parting(unittest.TestCase):
    def test_told_ones(self):
        for cut in ([1], [1, 2], [1, 3], [1, 2, 3], [2, 3]):
            self.assertIs(parts_all(TREE, ASKS, cut), True)
        for cut in ([], [2], [3]):
            self.assertIs(parts_all(TREE, ASKS, cut), False)

    def test_no_asks(self):
        for cut in ([], [1], [2, 7], list(range(1, 9))):
            self.assertIs(parts_all(bush(), [], cut), True)

    def test_one_tie_too_few(self):
        asks = [(0, tie, 1, 1) for tie in range(1, 24)]
        self.assertIs(parts_all(star(23), asks, list(range(1, 24))), True)
        for tie in range(1, 24):
            cut = [other for other in range(1, 24) if other != tie]
            self.assertIs(parts_all(star(23), asks, cut), False)
        self.assertIs(parts_all(row(23), asks, [1]), True)
        self.assertIs(parts_all(row(23), asks, list(range(2, 24))), False)

    def test_by_hand(self):
        for seed, tree in enumerate(some_trees(25, 6)):
            asks = some_asks(tree, 1 + seed % 5, seed)
            for cut in all_cuts(tree):
                self.assertIs(parts_all(tree, asks, cut), parts_by_hand(tree, asks, cut))

    def test_no_cuts(self):
        for cut in ([2, 1], [1, 1], [1, 2, 2], [3, 1, 2], [0], [0, 1], [1, 4], [4], [-1], [-1, 1], [1, 10 ** 59]):
            self.assertIs(parts_all(TREE, ASKS, cut), False)
            self.assertIs(parts_all(TREE, [], cut), False)

    def test_things_of_other_kinds(self):
        for thing in odd_things() + ["1", (1,), (1, 2), {1: 1}, {1}, 1, 0]:
            if thing not in ([], [1]):
                self.assertIs(parts_all(TREE, ASKS, thing), False)
                self.assertIs(parts_all(TREE, [], thing), False)
            if not isinstance(thing, int) or isinstance(thing, bool):
                for cut in ([thing], [1, thing], [thing, 2], [1, thing, 3]):
                    self.assertIs(parts_all(TREE, ASKS, cut), False)

    def test_tree_and_asks_ahead(self):
        refused_alike(self, parts_all)

    def test_nothing_is_changed(self):
        things = copy.deepcopy((TREE, ASKS, [1, 3]))
        for turn in range(2):
            self.assertIs(parts_all(*things), True)
            self.assertEqual(things, (TREE, ASKS, [1, 3]))


class FlowsAndCuts(unittest.TestCase):
    def checked(self, tree, asks):
        told = flow_and_cut(tree, asks)
        self.assertIsInstance(told, tuple)
        flow, cut = told
        self.assertEqual((flow, cut), by_hand(tree, asks))
        self.assertIs(is_flow(tree, asks, flow), True)
        self.assertIs(parts_all(tree, asks, cut), True)
        self.assertTrue(parts_by_hand(tree, asks, cut))
        self.assertLessEqual(rooms(tree, cut), 2 * sum(flow))
        self.assertIs(is_flow_paper(tree, asks, told), True)
        return told

    def test_one_depth_by_numbers(self):
        asks = [(1, 2, 1, 1), (2, 3, 1, 1), (3, 1, 1, 1)]
        tree = ([0, 0, 0], [2, 3, 4])
        self.assertEqual(self.checked(tree, asks), ([2, 1, 0], [1, 2]))
        self.assertEqual(self.checked(tree, asks[::-1]), ([2, 2, 0], [1, 3]))

    def test_deeper_meetings_first(self):
        tree = ([0, 1, 1], [1, 2, 3])
        asks = [(0, 2, 1, 1), (2, 3, 1, 1)]
        self.assertEqual(self.checked(tree, asks), ([0, 2], [2]))
        self.assertEqual(self.checked(row(3, 4), [(0, 3, 1, 1), (1, 3, 1, 1), (2, 3, 1, 1)]), ([0, 0, 4], [3]))

    def test_several_ties_filled_by_one_ask(self):
        self.assertEqual(self.checked(row(4, 2), [(0, 4, 1, 1)]), ([2], [1]))
        self.assertEqual(self.checked(star(2, 2), [(2, 1, 1, 1)]), ([2], [1]))
        # Ties 1 and 2 are filled at once; only both part all asks.
        asks = [(1, 2, 1, 1), (0, 1, 1, 1), (2, 0, 1, 1)]
        self.assertEqual(self.checked(star(2, 2), asks), ([2, 0, 0], [1, 2]))

    def test_a_tie_that_is_taken_out_and_one_that_stays(self):
        # Each of the two ties parts one ask that the other one doesn't.
        tree = ([0, 1, 0], [3, 2, 9])
        self.assertEqual(self.checked(tree, [(1, 2, 1, 1), (0, 1, 1, 1)]), ([2, 3], [1, 2]))
        # Tie 3 is filled ahead of tie 2, which parts both asks.
        self.assertEqual(self.checked(([0, 1, 2], [9, 5, 2]), [(1, 3, 1, 1), (1, 2, 1, 1)]), ([2, 3], [2]))
        # Of ties that are filled at once and would do, each of them, the later ones in the row go.
        self.assertEqual(self.checked(row(2, 2), [(0, 2, 1, 1)]), ([2], [1]))
        # A tie with room left is none of the cut, though it would do.
        self.assertEqual(self.checked(([0, 1], [2, 1]), [(1, 2, 1, 1), (0, 2, 1, 1)]), ([1, 0], [2]))

    def test_no_room_left(self):
        asks = [(0, 1, 1, 1)] * 30
        self.assertEqual(self.checked(row(1, 7), asks), ([7] + [0] * 29, [1]))

    def test_sizes_and_worths_do_not_count(self):
        for size, worth in ((1, 1), (10 ** 6, 1), (1, 10 ** 12), (10 ** 6, 10 ** 12)):
            self.assertEqual(self.checked(row(2, 3), [(0, 2, size, worth)]), ([3], [1]))

    def test_no_asks(self):
        for tree in (row(1), row(23), star(23), bush()):
            self.assertEqual(self.checked(tree, []), ([], []))

    def test_by_hand(self):
        for seed, tree in enumerate([row(5, 3), star(7, 2), bush()] + some_trees(120, 9, 4)):
            self.checked(tree, some_asks(tree, seed % 12, seed))

    def test_23_ties_and_30_asks(self):
        cases = [row(23, 10 ** 6), star(23, 1), ([0] + list(range(22)), list(range(1, 24)))]
        for seed, tree in enumerate(cases + [tree for tree in some_trees(300, 23, 9) if len(tree[0]) == 23]):
            self.checked(tree, some_asks(tree, 30, seed))

    def test_no_flow_is_more_than_any_cut(self):
        for seed, tree in enumerate([star(3, 1), row(3, 2)] + some_trees(25, 4, 3, seed=5)):
            asks = some_asks(tree, 3, seed)
            flows = [list(flow) for flow in itertools.product(range(4), repeat=3)]
            most = max(sum(flow) for flow in flows if is_flow(tree, asks, flow))
            least = min(rooms(tree, cut) for cut in all_cuts(tree) if parts_all(tree, asks, cut))
            self.assertLessEqual(most, least)
            flow, cut = self.checked(tree, asks)
            self.assertLessEqual(sum(flow), most)
            self.assertGreaterEqual(rooms(tree, cut), least)

    def test_tree_then_asks(self):
        refused_alike(self, lambda tree, asks, thing: flow_and_cut(tree, asks))

    def test_nothing_is_changed_and_lists_are_new(self):
        check_own(self, flow_and_cut, bush(), some_asks(bush(), 9))
        check_own(self, flow_and_cut, bush(), [])


class Papers(unittest.TestCase):
    def test_told_ones(self):
        self.assertIs(is_flow_paper(TREE, ASKS, ([1, 1, 1], [1])), True)
        self.assertIs(is_flow_paper(TREE, ASKS, ([3, 0, 0], [1])), True)
        self.assertIs(is_flow_paper(TREE, ASKS, ([2, 1, 0], [1, 3])), True)
        self.assertIs(is_flow_paper(TREE, [], ([], [])), True)
        self.assertIs(is_flow_paper(TREE, [], ([], [3])), False)

    def test_rooms_just_twice_the_sum_and_one_more(self):
        asks = [(0, 1, 1, 1)]
        for often in (1, 2, 5 * 10 ** 5):
            self.assertIs(is_flow_paper(row(1, 2 * often), asks, ([often], [1])), True)
            if often > 1:
                self.assertIs(is_flow_paper(row(1, 2 * often - 1), asks, ([often], [1])), True)
            if 2 * often < 10 ** 6:
                self.assertIs(is_flow_paper(row(1, 2 * often + 1), asks, ([often], [1])), False)
        for room, good in ((2, True), (3, False)):
            tree = ([0, 0], [2, room])
            self.assertIs(is_flow_paper(tree, [(0, 1, 1, 1), (0, 2, 1, 1)], ([1, 1], [1, 2])), good)

    def test_a_flow_or_a_cut_that_is_none(self):
        for flow in ([2, 1, 1], [4, 0, 0], [1, 1], [1, 1, 1, 0], [3, -1, 1], [True, 1, 1], (1, 1, 1), None, "111"):
            self.assertIs(is_flow_paper(TREE, ASKS, (flow, [1])), False)
        for cut in ([], [2], [3], [0, 1], [1, 1], [2, 1], [1, 4], [True], (1,), None, {1: 1}, "1"):
            self.assertIs(is_flow_paper(TREE, ASKS, ([1, 1, 1], cut)), False)

    def test_forms(self):
        for thing in ([[1, 1, 1], [1]], ([1, 1, 1],), ([1, 1, 1], [1], [1]), ([1, 1, 1], [1], None), ([1], [1, 1, 1])):
            self.assertIs(is_flow_paper(TREE, ASKS, thing), False)

    def test_things_of_other_kinds(self):
        for thing in odd_things() + ["ab", (0, 0), {0: [1], 1: [1]}, Odd()]:
            self.assertIs(is_flow_paper(TREE, ASKS, thing), False)
            self.assertIs(is_flow_paper(TREE, [], thing), False)
            self.assertIs(is_flow_paper(TREE, ASKS, (thing, thing)), False)
            self.assertIs(is_flow_paper(TREE, ASKS, ([thing, 1, 1], [1])), False)
            self.assertIs(is_flow_paper(TREE, ASKS, ([1, 1, 1], [thing])), False)

    def test_tree_and_asks_ahead(self):
        refused_alike(self, is_flow_paper)

    def test_nothing_is_changed(self):
        things = copy.deepcopy((TREE, ASKS, ([1, 1, 1], [1])))
        for turn in range(2):
            self.assertIs(is_flow_paper(*things), True)
            self.assertEqual(things, (TREE, ASKS, ([1, 1, 1], [1])))


if __name__ == "__main__":
    unittest.main()
