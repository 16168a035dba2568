import copy
import unittest

from tests.cases import Odd, best_worth, bush, fits, odd_things, row, some_asks, some_trees, star, ties_of
from treeasks.errors import AskError, NoAsks, NoShare, NoTree, TooMany
from treeasks.gates import Gate
from treeasks.keeps import look_at_keep, worth_of
from treeasks.prices import bound_of, look_at_prices


def shown(gate):
    return gate.asks(), gate.kept(), gate.prices()


def by_hand(tree, by_sizes, coming):
    """The asks, the keep and the prices behind those that come, none of them refused."""
    asks, keep = [], []
    for one, other, size, worth in coming:
        asks.append((one, other, size, size if by_sizes else 1))
        if fits(tree, asks, keep + [len(asks) - 1]):
            keep.append(len(asks) - 1)
    prices = []
    for tie, room in enumerate(tree[1], 1):
        load = sum(asks[number][2] for number in keep if tie in ties_of(tree, asks[number]))
        prices.append((1, 1) if load == room or by_sizes and 2 * load > room else (0, 1))
    return asks, keep, prices


class Gates(unittest.TestCase):
    def test_new(self):
        for tree in (row(1), star(23), bush()):
            for by_sizes in (False, True):
                self.assertEqual(shown(Gate(tree, by_sizes)), ([], [], [(0, 1)] * len(tree[0])))

    def test_size_one(self):
        gate = Gate(([0, 1], [2, 1]), False)
        self.assertIs(gate.come((0, 2, 1, 9)), True)
        self.assertEqual(shown(gate), ([(0, 2, 1, 1)], [0], [(0, 1), (1, 1)]))
        self.assertIs(gate.come((2, 1, 1, 10 ** 12)), False)
        self.assertIs(gate.come((1, 0, 1, 5)), True)
        self.assertIs(gate.come((0, 1, 1, 1)), False)
        asks = [(0, 2, 1, 1), (2, 1, 1, 1), (1, 0, 1, 1), (0, 1, 1, 1)]
        self.assertEqual(shown(gate), (asks, [0, 2], [(1, 1), (1, 1)]))

    def test_by_sizes(self):
        gate = Gate(([0, 0], [10, 6]), True)
        self.assertIs(gate.come((0, 1, 5, 1)), True)
        # Just half of the room.
        self.assertEqual(shown(gate), ([(0, 1, 5, 5)], [0], [(0, 1), (0, 1)]))
        self.assertIs(gate.come((0, 1, 1, 7)), True)
        self.assertEqual(gate.prices(), [(1, 1), (0, 1)])
        self.assertIs(gate.come((0, 1, 5, 7)), False)
        self.assertEqual(gate.prices(), [(1, 1), (0, 1)])
        self.assertIs(gate.come((2, 1, 3, 7)), True)
        self.assertEqual(gate.prices(), [(1, 1), (0, 1)])
        self.assertIs(gate.come((1, 2, 2, 7)), False)
        self.assertIs(gate.come((1, 2, 1, 7)), True)
        asks = [(0, 1, 5, 5), (0, 1, 1, 1), (0, 1, 5, 5), (2, 1, 3, 3), (1, 2, 2, 2), (1, 2, 1, 1)]
        # Tie 1 is just full, tie 2 more than half.
        self.assertEqual(shown(gate), (asks, [0, 1, 3, 5], [(1, 1), (1, 1)]))

    def test_prices_of_loads(self):
        for room, load, plain, by_sizes in ((5, 2, 0, 0), (5, 3, 0, 1), (6, 3, 0, 0), (6, 4, 0, 1), (6, 5, 0, 1),
                                            (6, 6, 1, 1), (2, 1, 0, 0), (2, 2, 1, 1), (3, 1, 0, 0), (3, 2, 0, 1)):
            for dear, price in ((False, plain), (True, by_sizes)):
                gate = Gate(row(1, room), dear)
                for turn in range(load):
                    self.assertIs(gate.come((0, 1, 1, 3)), True)
                self.assertEqual(gate.prices(), [(price, 1)])

    def test_rooms_of_one(self):
        gate = Gate(row(1, 1), False)
        self.assertIs(gate.come((0, 1, 1, 3)), True)
        self.assertEqual(gate.prices(), [(1, 1)])
        self.assertIs(gate.come((0, 1, 1, 3)), False)

    def test_by_hand(self):
        for seed, tree in enumerate([row(23, 2), star(23, 1), bush()] + some_trees(60, 9, 6)):
            for by_sizes in (False, True):
                gate = Gate(tree, by_sizes)
                came = []
                for ask in some_asks(tree, 40, seed, 3 if by_sizes else 1):
                    try:
                        kept = gate.come(ask)
                    except (NoShare, TooMany):
                        continue
                    came.append(ask)
                    self.assertEqual(shown(gate), by_hand(tree, by_sizes, came))
                    self.assertIs(kept, len(came) - 1 in gate.kept())
                    self.papers(tree, by_sizes, gate)

    def papers(self, tree, by_sizes, gate):
        asks, keep, prices = shown(gate)
        look_at_keep(tree, asks, keep)
        look_at_prices(tree, prices)
        self.assertTrue(fits(tree, asks, keep))
        most = max([len(ties_of(tree, ask)) for ask in asks])
        top, bottom = bound_of(tree, asks, prices)
        self.assertEqual(bottom, 1)
        self.assertLessEqual(top, (2 if by_sizes else 1) * most * worth_of(tree, asks, keep))
        return top

    def test_no_keep_is_worth_more_than_the_bound(self):
        for seed, tree in enumerate(some_trees(25, 5, 5, seed=4)):
            for by_sizes in (False, True):
                gate = Gate(tree, by_sizes)
                for ask in some_asks(tree, 7, seed, 2 if by_sizes else 1):
                    try:
                        gate.come(ask)
                    except NoShare:
                        continue
                if gate.asks():
                    self.assertLessEqual(best_worth(tree, gate.asks()), self.papers(tree, by_sizes, gate))


class Refusals(unittest.TestCase):
    def refused(self, gate, ask, kind, number=None):
        ahead = shown(gate)
        with self.subTest(ask=ask):
            with self.assertRaises(AskError) as caught:
                gate.come(ask)
            self.assertIs(caught.exception.__class__, kind)
            if kind is not TooMany:
                self.assertEqual(caught.exception.number, number)
        self.assertEqual(shown(gate), ahead)

    def test_no_ask(self):
        bad = odd_things() + [
            (0, 0, 1, 1), (0, 9, 1, 1), (-1, 1, 1, 1), (0, 1, 0, 1), (0, 1, 10 ** 6 + 1, 1), (0, 1, 1, 0),
            (0, 1, 1, 10 ** 12 + 1), (0, 1, 1), (0, 1, 1, 1, 1), [0, 1, 1, 1], (0, True, 1, 1), (False, 1, 1, 1),
            (0, 1, True, 1), (0, 1, 1, True), ("0", 1, 1, 1), (0, 1, 1, None), (0, 1, -1, 1), (0, 1, Odd(), 1)]
        for by_sizes in (False, True):
            gate = Gate(bush(), by_sizes)
            for came in range(4):
                for ask in bad:
                    self.refused(gate, ask, NoAsks, came)
                gate.come((0, 1, 1, 1))
            self.assertEqual(len(gate.asks()), 4)
        # One that is sent has come, too.
        gate = Gate(row(1, 1), False)
        self.assertEqual([gate.come((0, 1, 1, 1)) for turn in range(3)], [True, False, False])
        self.refused(gate, None, NoAsks, 3)
        self.refused(gate, (0, 1, 2, 1), NoShare, 3)

    def test_greatest_asks(self):
        gate = Gate(row(1, 10 ** 6), True)
        self.assertIs(gate.come((0, 1, 5 * 10 ** 5, 10 ** 12)), True)
        self.assertEqual(gate.asks(), [(0, 1, 5 * 10 ** 5, 5 * 10 ** 5)])
        self.refused(gate, (0, 1, 5 * 10 ** 5 + 1, 10 ** 12), NoShare, 1)
        self.refused(gate, (0, 1, 10 ** 6, 10 ** 12), NoShare, 1)
        self.refused(gate, (0, 1, 10 ** 6 + 1, 10 ** 12), NoAsks, 1)

    def test_sizes_that_are_not_one(self):
        gate = Gate(row(2, 100), False)
        for came in range(3):
            for size in (2, 3, 100, 10 ** 6):
                self.refused(gate, (0, 1, size, 1), NoShare, came)
            gate.come((0, 2, 1, 1))

    def test_sizes_above_half(self):
        gate = Gate(([0, 1, 2], [9, 4, 1]), True)
        self.refused(gate, (0, 1, 5, 1), NoShare, 0)
        self.assertIs(gate.come((0, 1, 4, 1)), True)
        self.refused(gate, (0, 2, 3, 1), NoShare, 1)
        self.refused(gate, (2, 1, 3, 1), NoShare, 1)
        self.assertIs(gate.come((0, 2, 2, 1)), True)
        # Of size 1 over a room of 1, alone and with others.
        self.refused(gate, (2, 3, 1, 1), NoShare, 2)
        self.refused(gate, (3, 0, 1, 1), NoShare, 2)
        self.assertEqual(gate.kept(), [0, 1])

    def test_the_thirty_first(self):
        for by_sizes in (False, True):
            gate = Gate(row(2, 12), by_sizes)
            told = [gate.come((0, 1, 1, 1)) for turn in range(30)]
            self.assertEqual(told, [True] * 12 + [False] * 18)
            for ask in ((0, 1, 1, 1), (1, 2, 1, 1), (2, 0, 1, 5)):
                self.refused(gate, ask, TooMany)
            # What is none, or too great, is told as such ahead.
            self.refused(gate, (0, 3, 1, 1), NoAsks, 30)
            self.refused(gate, None, NoAsks, 30)
            self.refused(gate, (0, 1, 7, 1), NoShare, 30)

    def test_refused_ones_do_not_count(self):
        gate = Gate(row(1, 40), False)
        for turn in range(40):
            self.refused(gate, (0, 1, 2, 1), NoShare, 0)
            self.refused(gate, "ask", NoAsks, 0)
        for turn in range(30):
            self.assertIs(gate.come((0, 1, 1, 1)), True)
        self.refused(gate, (0, 1, 1, 1), TooMany)

    def test_no_tree(self):
        for by_sizes in (False, True):
            for thing in odd_things():
                with self.assertRaises(NoTree) as caught:
                    Gate(thing, by_sizes)
                self.assertIsInstance(caught.exception.part, str)
            for thing, part, number in ((([], []), "tree", None), (([0, 2], [1, 1]), "parents", 1),
                                        (([0], [0]), "rooms", 0)):
                with self.assertRaises(NoTree) as caught:
                    Gate(thing, by_sizes)
                self.assertEqual((caught.exception.part, caught.exception.number), (part, number))


class Own(unittest.TestCase):
    def test_what_is_handed_in_is_not_kept(self):
        tree = bush()
        gate = Gate(tree, False)
        self.assertIs(gate.come((0, 6, 1, 4)), True)
        self.assertEqual(tree, bush())
        ahead = copy.deepcopy(shown(gate))
        tree[0].clear()
        tree[1][:] = [99]
        self.assertEqual(shown(gate), ahead)
        self.assertIs(gate.come((0, 6, 1, 4)), False)

    def test_told_lists_are_new(self):
        gate = Gate(row(3, 2), True)
        gate.come((0, 2, 1, 4))
        gate.come((0, 2, 1, 4))
        ahead = copy.deepcopy(shown(gate))
        for turn in range(2):
            for one in shown(gate):
                one.clear()
            self.assertEqual(shown(gate), ahead)
        for one, again in zip(shown(gate), shown(gate)):
            self.assertIsNot(one, again)
        self.assertIs(gate.come((0, 3, 1, 4)), False)
        self.assertEqual(gate.kept(), [0, 1])

    def test_two_gates_do_not_touch_each_other(self):
        tree = row(1, 2)
        one, other = Gate(tree, False), Gate(tree, False)
        self.assertEqual([one.come((0, 1, 1, 1)) for turn in range(3)], [True, True, False])
        self.assertEqual(shown(other), ([], [], [(0, 1)]))
        self.assertIs(other.come((0, 1, 1, 1)), True)
        self.assertEqual(other.kept(), [0])
        self.assertEqual(len(one.asks()), 3)


if __name__ == "__main__":
    unittest.main()
