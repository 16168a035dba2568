"""What the document promises over the whole program, (a) to (h) of its second point, and its third."""

import copy
import random
import unittest
from fractions import Fraction

from tests.cases import (
    all_keeps, best_worth, big_trees, check_own, fits, one_way_asks, ones, row, some_asks, some_prices, some_trees,
    star, ties_of)
from treeasks.alike import keep_alike
from treeasks.best import best_keep
from treeasks.casetexts import read_case, show_case
from treeasks.changes import bound_turned, carried_keep, carried_prices, changed
from treeasks.cuts import flow_and_cut, is_flow_paper, parts_all
from treeasks.desk import Desk
from treeasks.errors import AskError, NoPointing, NoShare
from treeasks.flows import is_flow
from treeasks.gates import Gate
from treeasks.hanging import hung, hung_asks, hung_prices, hung_reasons
from treeasks.keeps import loads, worth_of
from treeasks.mixed import keep_mixed, mixed_bound
from treeasks.papertexts import read_numbers, read_prices, show_numbers, show_prices
from treeasks.pointings import is_pointing
from treeasks.prices import bound_of, spares
from treeasks.reasons import lets_reasons
from treeasks.rings import is_ring, pointed
from treeasks.seeking import seek
from treeasks.shares import is_share
from treeasks.trees import depths
from treeasks.unlike import keep_unlike


def small_cases():
    for seed, tree in enumerate([row(3, 2), star(3, 1), star(4, 3)] + some_trees(30, 5, 4, seed=7)):
        yield tree, some_asks(tree, 1 + seed % 6, seed, 3)


def great_cases():
    for seed, tree in enumerate([row(23, 3), star(23, 2)] + big_trees(6, 9, 7)):
        yield tree, some_asks(tree, 30, seed, 4)


def with_room(tree, room):
    return (tree[0], [room] * len(tree[0]))


def longest(tree, asks):
    return max([len(ties_of(tree, ask)) for ask in asks])


class Promise(unittest.TestCase):
    def test_a_no_keep_that_fits_is_worth_more_than_the_bound(self):
        chance = random.Random(1)
        for tree, asks in small_cases():
            best = best_worth(tree, asks)
            for turn in range(10):
                self.assertLessEqual(best, Fraction(*bound_of(tree, asks, some_prices(tree, chance))))

    def test_b_rooms_alike(self):
        for tree, asks in list(small_cases()) + list(great_cases()):
            for room in (1, 2, 3, 4, 9, 60):
                alike, wanted = with_room(tree, room), ones(asks)
                keep, prices, rests = keep_alike(alike, wanted)
                times = (2, 1) if room < 3 else ((3 * room - 2) // (2 - room % 2), room // (2 - room % 2))
                self.assertEqual(Fraction(*times), 2 if room < 3 else 3 - Fraction(2, room))
                self.assertTrue(fits(alike, wanted, keep))
                self.assertIs(is_share(alike, wanted, (keep, prices, times)), True)

    def test_b_rooms_alike_and_sizes_to_the_room(self):
        for tree, asks in list(small_cases()) + list(great_cases()):
            for room in (4, 9, 60):
                alike = with_room(tree, room)
                wide, narrow, pieces, units = keep_mixed(alike, asks)
                self.assertTrue(fits(alike, asks, wide) and fits(alike, asks, narrow))
                bound = Fraction(*mixed_bound(alike, asks, pieces, units))
                worth = max(worth_of(alike, asks, wide), worth_of(alike, asks, narrow))
                self.assertLessEqual(bound, 6 * worth)

    def test_b_rooms_unlike(self):
        for tree, asks in list(small_cases()) + list(great_cases()):
            for wanted, times in ((ones(asks), 1), (asks, 2)):
                try:
                    keep, prices = keep_unlike(tree, wanted)
                except NoShare:
                    continue
                self.assertTrue(fits(tree, wanted, keep))
                self.assertIs(is_share(tree, wanted, (keep, prices, (times * longest(tree, wanted), 1))), True)

    def test_c_best_keeps_or_rings(self):
        told = []
        for number, (tree, asks) in enumerate(list(small_cases()) + list(great_cases())):
            for wanted in (ones(asks), one_way_asks(tree, len(asks), number, 9)):
                kind, paper = pointed(tree, wanted)
                told.append(kind)
                if kind == "ring":
                    self.assertIs(is_ring(tree, wanted, paper), True)
                    with self.assertRaises(NoPointing):
                        best_keep(tree, wanted)
                else:
                    self.assertIs(is_pointing(tree, wanted, paper), True)
                    keep, prices = best_keep(tree, wanted)
                    self.assertTrue(fits(tree, wanted, keep))
                    self.assertEqual(bound_of(tree, wanted, prices), (worth_of(tree, wanted, keep), 1))
        self.assertGreater(told.count("ring"), 5)
        self.assertGreater(told.count("pointed"), 30)

    def test_d_flows_and_cuts(self):
        for tree, asks in list(small_cases()) + list(great_cases()):
            flow, cut = flow_and_cut(tree, asks)
            self.assertIs(is_flow(tree, asks, flow), True)
            self.assertIs(parts_all(tree, asks, cut), True)
            self.assertIs(is_flow_paper(tree, asks, (flow, cut)), True)
            # The told flow is one that fits: it is no more than the rooms of any cut that parts all asks.
            self.assertLessEqual(sum(flow), sum(tree[1][tie - 1] for tie in cut))

    def test_e_reasons(self):
        for tree, asks in small_cases():
            answer, keep, reasons = seek(tree, asks, 2 ** (len(asks) + 1) - 1)
            worth = worth_of(tree, asks, keep)
            self.assertTrue(fits(tree, asks, keep))
            self.assertIs(lets_reasons(tree, asks, worth, reasons), True)
            self.assertEqual(max(worth_of(tree, asks, list(other)) for other in all_keeps(asks)
                                 if fits(tree, asks, other)), worth)

    def test_f_gates(self):
        for tree, asks in list(small_cases()) + list(great_cases()):
            for by_sizes, wanted in ((False, ones(asks)), (True, asks)):
                gate = Gate(tree, by_sizes)
                for ask in wanted:
                    try:
                        gate.come(ask)
                    except NoShare:
                        continue
                if gate.asks():
                    came, keep = gate.asks(), gate.kept()
                    times = (2 if by_sizes else 1) * longest(tree, came)
                    self.assertIs(is_share(tree, came, (keep, gate.prices(), (times, 1))), True)

    def test_g_changed(self):
        chance = random.Random(2)
        for tree, asks in small_cases():
            prices = some_prices(tree, chance)
            for change in (("room", 1, 9), ("less", 0), ("more", asks[0]), ("ask", 0, asks[-1]), ("hang", 0, 2)):
                there, wanted = changed(tree, asks, change)
                carried = carried_prices(tree, asks, change, prices)
                most = Fraction(*bound_of(there, wanted, carried))
                turn = Fraction(*bound_turned(tree, asks, change, prices))
                self.assertEqual(most, Fraction(*bound_of(tree, asks, prices)) + turn)
                self.assertLessEqual(best_worth(there, wanted), most)

    def test_g_hung(self):
        for number, (tree, asks) in enumerate(small_cases()):
            answer, keep, reasons = seek(tree, asks, 4000)
            worth = worth_of(tree, asks, keep)
            place = number % (len(tree[0]) + 1)
            there, order = hung(tree, place)
            wanted = hung_asks(tree, asks, place)
            self.assertEqual(best_worth(there, wanted), worth)
            self.assertIs(lets_reasons(there, wanted, worth, hung_reasons(tree, asks, place, reasons)), True)

    def test_h_what_is_written_is_read_back(self):
        chance = random.Random(3)
        for tree, asks in list(small_cases()) + list(great_cases()):
            self.assertEqual(read_case(show_case(tree, asks)), (tree, asks))
            prices = some_prices(tree, chance)
            self.assertEqual(read_prices(show_prices(prices)), prices)
            for numbers in (seek(tree, asks, 9)[1], flow_and_cut(tree, asks)[1], []):
                self.assertEqual(read_numbers(show_numbers(numbers)), numbers)


def questions():
    """Each a function with what it is handed."""
    tree, asks = row(4, 6), some_asks(row(4), 6, 3)
    prices = [(1, 2), (0, 1), (3, 1), (2, 3)]
    reasons = seek(tree, asks, 4000)[2]
    return [(depths, tree), (loads, tree, asks, [0, 2]), (spares, tree, asks, prices), (bound_of, tree, asks, prices),
            (keep_alike, tree, ones(asks)), (keep_mixed, tree, asks), (keep_unlike, tree, asks),
            (mixed_bound, tree, asks, prices, prices), (pointed, tree, asks), (best_keep, tree, ones(asks)),
            (flow_and_cut, tree, asks), (seek, tree, asks, 4000), (seek, tree, asks, 1),
            (lets_reasons, tree, asks, 10 ** 6, reasons), (changed, tree, asks, ("room", 1, 6)),
            (carried_keep, tree, asks, ("less", 1), [0, 1, 2]), (carried_prices, tree, asks, ("hang", 1, 1), prices),
            (hung, tree, 2), (hung_asks, tree, asks, 2), (hung_prices, tree, 2, prices),
            (hung_reasons, tree, asks, 2, reasons), (show_case, tree, asks), (read_case, show_case(tree, asks)),
            (show_prices, prices), (read_prices, "1/2 3"), (read_numbers, "0 4")]


class Whole(unittest.TestCase):
    def test_each_alone(self):
        for function, *things in questions():
            with self.subTest(function=function.__name__):
                check_own(self, function, *things)

    def test_whatever_was_asked_in_between(self):
        asked = questions()
        told = [copy.deepcopy(function(*things)) for function, *things in asked]
        chance = random.Random(4)
        for turn in range(5):
            order = list(range(len(asked)))
            chance.shuffle(order)
            for number in order:
                function, *things = asked[number]
                self.assertEqual(function(*things), told[number])
                # What is refused leaves no trace, either.
                with self.assertRaises((AskError, TypeError)):
                    function(None, *things[1:])

    def test_objects_side_by_side(self):
        alone = self.at_gate(Gate(row(2, 2), False), lambda: None)
        other, desk = Gate(row(2, 2), False), Desk()

        def in_between():
            desk.say("case a tie 0 1; ask 0 1 1 1")
            desk.say("share a")
            desk.say("drop a")
            if len(other.asks()) < 30:
                other.come((1, 2, 1, 1))
        self.assertEqual(self.at_gate(Gate(row(2, 2), False), in_between), alone)

    def at_gate(self, gate, in_between):
        told = []
        for ask in ones(some_asks(row(2), 9)):
            told.append(gate.come(ask))
            in_between()
            told.append((gate.asks(), gate.kept(), gate.prices()))
            in_between()
        return told


if __name__ == "__main__":
    unittest.main()
