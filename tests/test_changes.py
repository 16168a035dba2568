import copy
import random
import unittest
from fractions import Fraction

from tests.cases import (
    Equal, Odd, best_worth, bush, check_own, odd_things, row, some_asks, some_prices, some_trees, star)
from treeasks.asks import look_at_asks
from treeasks.changes import bound_turned, carried_keep, carried_prices, changed
from treeasks.errors import NoAsks, NoChange, NoKeep, NoPrices, NoTree
from treeasks.keeps import first_over
from treeasks.prices import bound_of, look_at_prices

TREE = ([0, 0, 1], [3, 5, 2])
ASKS = [(1, 2, 1, 4), (3, 2, 2, 9), (3, 0, 1, 1), (0, 1, 3, 7)]
PRICES = [(1, 2), (0, 1), (3, 1)]
CHANGES = [("room", 1, 9), ("ask", 1, (0, 1, 1, 1)), ("more", (0, 1, 1, 1)), ("less", 2), ("hang", 3, 8)]
THINGS = odd_things() + [Odd(), Equal()]


def bad_changes():
    """What is no change of TREE and ASKS."""
    ask = (0, 1, 1, 1)
    found = list(THINGS)
    for change in CHANGES:
        found += [list(change), change[:-1], change + (1,), change + (None,), change[:1], change[1:], {change[0]: 1},
                  ("x" + change[0],) + change[1:], (change[0].upper(),) + change[1:], (change[0] + " ",) + change[1:]]
    found += [("", 1, 9), ("rooms", 1, 9), ("room", 1, 9, 1), (None, 1, 9), (1, 1, 9), (True, 2), (("room",), 1, 9),
              (["room"], 1, 9), (b"room", 1, 9), (Odd(), 1, 9), (Equal(), 1, 9), ({}, 1, 9),
              ("hang", 1), ("less", 1, 1), ("more", 1)]
    for tie in (0, 4, -1, 23, 10 ** 59):
        found.append(("room", tie, 9))
    for room in (0, -1, 10 ** 6 + 1, 10 ** 59):
        found += [("room", 1, room), ("hang", 1, room)]
    for number in (-1, 4, 30, 10 ** 59):
        found += [("ask", number, ask), ("less", number)]
    for parent in (-1, 4, 5, 10 ** 59):
        found.append(("hang", parent, 9))
    for bad in ((0, 0, 1, 1), (0, 4, 1, 1), (-1, 1, 1, 1), (0, 1, 0, 1), (0, 1, 10 ** 6 + 1, 1), (0, 1, 1, 0),
                (0, 1, 1, 10 ** 12 + 1), (0, 1, 1), (0, 1, 1, 1, 1), [0, 1, 1, 1], (0, True, 1, 1), (0, 1, 1, True)):
        found += [("ask", 1, bad), ("more", bad)]
    for thing in THINGS:
        found += [("room", thing, 9), ("room", 1, thing), ("ask", thing, ask), ("ask", 1, thing), ("more", thing),
                  ("less", thing), ("hang", thing, 9), ("hang", 1, thing)]
    return found


class Changed(unittest.TestCase):
    def check(self, change, tree, asks):
        self.assertEqual(changed(TREE, ASKS, change), (tree, asks))

    def test_rooms(self):
        self.check(("room", 1, 7), ([0, 0, 1], [7, 5, 2]), ASKS)
        self.check(("room", 3, 1), ([0, 0, 1], [3, 5, 1]), ASKS)
        self.check(("room", 2, 10 ** 6), ([0, 0, 1], [3, 10 ** 6, 2]), ASKS)
        self.check(("room", 2, 5), TREE, ASKS)

    def test_other_asks(self):
        self.check(("ask", 0, (3, 1, 10 ** 6, 10 ** 12)), TREE, [(3, 1, 10 ** 6, 10 ** 12)] + ASKS[1:])
        self.check(("ask", 3, (3, 1, 1, 1)), TREE, ASKS[:3] + [(3, 1, 1, 1)])
        self.check(("ask", 1, ASKS[1]), TREE, ASKS)

    def test_more(self):
        self.check(("more", (2, 3, 1, 1)), TREE, ASKS + [(2, 3, 1, 1)])
        self.assertEqual(changed(TREE, [], ("more", (2, 3, 5, 6))), (TREE, [(2, 3, 5, 6)]))

    def test_less(self):
        for number in range(4):
            self.check(("less", number), TREE, ASKS[:number] + ASKS[number + 1:])
        self.assertEqual(changed(TREE, ASKS[:1], ("less", 0)), (TREE, []))

    def test_hang(self):
        for parent in range(4):
            self.check(("hang", parent, 8), ([0, 0, 1, parent], [3, 5, 2, 8]), ASKS)
        self.check(("hang", 0, 1), ([0, 0, 1, 0], [3, 5, 2, 1]), ASKS)
        self.check(("hang", 0, 10 ** 6), ([0, 0, 1, 0], [3, 5, 2, 10 ** 6]), ASKS)

    def test_the_thirty_first_ask(self):
        asks = [(0, 1, 1, 1)] * 29
        tree, asks = changed(row(2), asks, ("more", (1, 2, 1, 1)))
        self.assertEqual(len(asks), 30)
        with self.assertRaises(NoChange):
            changed(tree, asks, ("more", (1, 2, 1, 1)))
        self.assertEqual(changed(tree, asks, ("ask", 29, (0, 2, 1, 1)))[1][29], (0, 2, 1, 1))

    def test_the_twenty_fourth_tie(self):
        tree, asks = changed(row(22), ASKS, ("hang", 22, 4))
        self.assertEqual(tree, (list(range(23)), [5] * 22 + [4]))
        with self.assertRaises(NoChange):
            changed(tree, asks, ("hang", 0, 4))
        with self.assertRaises(NoChange):
            changed(tree, asks, ("hang", 23, 4))
        self.assertEqual(changed(tree, asks, ("room", 23, 9))[0][1][22], 9)

    def test_what_is_told_is_a_tree_and_asks(self):
        chance = random.Random(2)
        for seed, tree in enumerate(some_trees(60)):
            asks = some_asks(tree, seed % 31, seed)
            for change in some_changes(chance, tree, asks):
                there, wanted = changed(tree, asks, change)
                look_at_asks(there, wanted)


def some_changes(chance, tree, asks):
    """One of each kind that can be."""
    ties = len(tree[0])
    ask = some_asks(tree, 1, chance.randint(0, 999))[0]
    found = [("room", chance.randint(1, ties), chance.randint(1, 9))]
    if asks:
        found += [("ask", chance.randrange(len(asks)), ask), ("less", chance.randrange(len(asks)))]
    if len(asks) < 30:
        found.append(("more", ask))
    if ties < 23:
        found.append(("hang", chance.randint(0, ties), chance.randint(1, 9)))
    return found


class Keeps(unittest.TestCase):
    def check(self, change, keep, told):
        self.assertEqual(carried_keep(TREE, ASKS, change, keep), told)

    def test_what_stays(self):
        for change in (("room", 1, 1), ("more", (0, 1, 1, 1)), ("hang", 0, 1)):
            for keep in ([], [0], [1, 3], [0, 1, 2, 3]):
                self.check(change, keep, keep)

    def test_without_the_ask_that_is_another_one(self):
        self.check(("ask", 1, (0, 1, 1, 1)), [0, 1, 3], [0, 3])
        self.check(("ask", 2, (0, 1, 1, 1)), [0, 1, 3], [0, 1, 3])
        self.check(("ask", 0, ASKS[0]), [0, 1, 3], [1, 3])
        self.check(("ask", 3, ASKS[3]), [3], [])

    def test_less(self):
        self.check(("less", 0), [0, 1, 2, 3], [0, 1, 2])
        self.check(("less", 0), [1, 3], [0, 2])
        self.check(("less", 1), [0, 1, 3], [0, 2])
        self.check(("less", 3), [0, 2, 3], [0, 2])
        self.check(("less", 2), [0, 1], [0, 1])
        self.check(("less", 2), [], [])

    def test_it_may_no_longer_fit(self):
        keep = carried_keep(TREE, ASKS, ("room", 1, 2), [3])
        self.assertEqual(keep, [3])
        tree, asks = changed(TREE, ASKS, ("room", 1, 2))
        self.assertEqual(first_over(tree, asks, keep), 1)

    def test_a_keep_that_does_not_fit_here(self):
        self.check(("hang", 0, 1), [0, 1, 2, 3], [0, 1, 2, 3])

    def test_kept_asks_are_the_same_there(self):
        chance = random.Random(3)
        for seed, tree in enumerate(some_trees(40)):
            asks = [(one, other, size, number + 1) for number, (one, other, size, worth)
                    in enumerate(some_asks(tree, seed % 31, seed))]
            for change in some_changes(chance, tree, asks):
                keep = [number for number in range(len(asks)) if chance.random() < 0.5]
                there, wanted = changed(tree, asks, change)
                still = [asks[number] for number in keep
                         if change[0] not in ("ask", "less") or number != change[1]]
                self.assertEqual([wanted[number] for number in carried_keep(tree, asks, change, keep)], still)


class Prices(unittest.TestCase):
    def test_carried(self):
        for change in CHANGES[:4]:
            self.assertEqual(carried_prices(TREE, ASKS, change, PRICES), PRICES)
        self.assertEqual(carried_prices(TREE, ASKS, ("hang", 2, 8), PRICES), PRICES + [(0, 1)])

    def test_turns_by_hand(self):
        # Rooms 3 at 1/2, 2 at 3; the ways of asks 1 and 2 cost 7/2, so 2 times this is 7: the bound is
        # 3/2 + 6 + (4 - 1/2) + (9 - 7) + 0 + (7 - 3/2) = 37/2.
        self.assertEqual(bound_of(TREE, ASKS, PRICES), (37, 2))
        for change, turn in ((("room", 1, 7), (2, 1)), (("room", 1, 1), (-1, 1)), (("room", 2, 99), (0, 1)),
                             (("room", 3, 1), (-3, 1)), (("room", 3, 2), (0, 1)),
                             (("less", 0), (-7, 2)), (("less", 2), (0, 1)), (("less", 3), (-11, 2)),
                             (("more", (0, 1, 1, 1)), (1, 2)), (("more", (0, 2, 5, 8)), (8, 1)),
                             (("more", (1, 3, 2, 6)), (0, 1)), (("hang", 1, 10 ** 6), (0, 1)),
                             (("ask", 1, (0, 1, 4, 3)), (-1, 1)), (("ask", 1, ASKS[1]), (0, 1))):
            self.assertEqual(bound_turned(TREE, ASKS, change, PRICES), turn)

    def test_turns_are_from_bound_to_bound(self):
        chance = random.Random(5)
        for seed, tree in enumerate(some_trees(60)):
            asks = some_asks(tree, seed % 31, seed)
            prices = some_prices(tree, chance)
            for change in some_changes(chance, tree, asks):
                there, wanted = changed(tree, asks, change)
                carried = carried_prices(tree, asks, change, prices)
                look_at_prices(there, carried)
                turn = Fraction(*bound_of(there, wanted, carried)) - Fraction(*bound_of(tree, asks, prices))
                self.assertEqual(bound_turned(tree, asks, change, prices), (turn.numerator, turn.denominator))

    def test_no_keep_is_worth_more_than_bound_and_turn(self):
        chance = random.Random(6)
        for seed, tree in enumerate([row(3, 2), star(3, 1)] + some_trees(30, 5, 3)):
            asks = some_asks(tree, seed % 6, seed)
            prices = some_prices(tree, chance)
            for change in some_changes(chance, tree, asks):
                there, wanted = changed(tree, asks, change)
                most = Fraction(*bound_of(tree, asks, prices)) + Fraction(*bound_turned(tree, asks, change, prices))
                self.assertLessEqual(best_worth(there, wanted), most)


class Refusals(unittest.TestCase):
    def test_no_change(self):
        for change in bad_changes():
            with self.subTest(change=change):
                with self.assertRaises(NoChange):
                    changed(TREE, ASKS, change)
                with self.assertRaises(NoChange):
                    carried_keep(TREE, ASKS, change, [0])
                with self.assertRaises(NoChange):
                    carried_prices(TREE, ASKS, change, PRICES)
                with self.assertRaises(NoChange):
                    bound_turned(TREE, ASKS, change, PRICES)

    def test_no_asks_to_change(self):
        for change in (("ask", 0, (0, 1, 1, 1)), ("less", 0), ("less", -1)):
            with self.assertRaises(NoChange):
                changed(TREE, [], change)

    def test_what_is_refused_changes_nothing(self):
        tree, asks = copy.deepcopy((TREE, ASKS))
        for change in bad_changes():
            with self.assertRaises(NoChange):
                changed(tree, asks, change)
        self.assertEqual((tree, asks), (TREE, ASKS))

    def test_tree_then_asks_then_change_then_the_rest(self):
        for function, rest, kind in ((changed, (), None), (carried_keep, (None,), NoKeep),
                                     (carried_prices, (None,), NoPrices), (bound_turned, (None,), NoPrices)):
            for change in (None, CHANGES[0]):
                for asks in (None, ASKS):
                    with self.assertRaises(NoTree):
                        function(([0], [0]), asks, change, *rest)
                with self.assertRaises(NoAsks) as caught:
                    function(TREE, ASKS + [(1, 1, 1, 1)], change, *rest)
                self.assertEqual(caught.exception.number, 4)
            with self.assertRaises(NoChange):
                function(TREE, ASKS, None, *rest)
            if kind:
                for change in CHANGES:
                    with self.assertRaises(kind) as caught:
                        function(TREE, ASKS, change, *rest)
                    self.assertIsNone(caught.exception.number)

    def test_keeps_are_of_the_asks_here(self):
        with self.assertRaises(NoKeep) as caught:
            carried_keep(TREE, ASKS, ("more", (0, 1, 1, 1)), [0, 4])
        self.assertEqual(caught.exception.number, 1)
        with self.assertRaises(NoKeep) as caught:
            carried_keep(TREE, ASKS, ("less", 0), [0, 0])
        self.assertEqual(caught.exception.number, 1)

    def test_prices_are_of_the_tree_here(self):
        for function in (carried_prices, bound_turned):
            for change in CHANGES:
                for prices, number in ((PRICES[:2], 2), (PRICES + [(0, 1)], 3), ([(0, 1), (2, 4), (0, 1)], 1)):
                    with self.assertRaises(NoPrices) as caught:
                        function(TREE, ASKS, change, prices)
                    self.assertEqual(caught.exception.number, number)


class Own(unittest.TestCase):
    def test_nothing_is_changed_and_lists_are_new(self):
        for change in CHANGES + [("room", 2, 5), ("ask", 1, ASKS[1])]:
            check_own(self, changed, TREE, ASKS, change)
            check_own(self, carried_keep, TREE, ASKS, change, [0, 2])
            check_own(self, carried_prices, TREE, ASKS, change, PRICES)
            check_own(self, bound_turned, TREE, ASKS, change, PRICES)
        self.assertEqual(changed(bush(), [], ("room", 1, 4)), (bush(), []))


if __name__ == "__main__":
    unittest.main()
