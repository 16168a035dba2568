import copy
import itertools
import unittest

from tests.cases import Odd, bush, odd_things, path, row, some_asks, some_trees, star
from treeasks.errors import NoAsks, NoTree
from treeasks.pointings import is_pointing


def by_hand(tree, asks, pointing):
    for one, other, size, worth in asks:
        there = all(pointing[tie - 1] == text for tie, text in path(tree, one, other))
        back = all(pointing[tie - 1] == text for tie, text in path(tree, other, one))
        if not there and not back:
            return False
    return True


class Pointings(unittest.TestCase):
    def test_ways_that_go_up_or_down_alone(self):
        for ask in ((0, 3, 1, 1), (3, 0, 1, 1)):
            self.assertIs(is_pointing(row(3), [ask], ["up"] * 3), True)
            self.assertIs(is_pointing(row(3), [ask], ["down"] * 3), True)
            self.assertIs(is_pointing(row(3), [ask], ["up", "down", "up"]), False)
            self.assertIs(is_pointing(row(3), [ask], ["up", "up", "down"]), False)
        self.assertIs(is_pointing(row(3), [(1, 3, 1, 1)], ["up", "down", "down"]), True)
        self.assertIs(is_pointing(row(3), [(1, 3, 1, 1), (0, 2, 1, 1)], ["up", "down", "down"]), False)

    def test_ways_that_go_up_and_down(self):
        for ask in ((1, 2, 1, 1), (2, 1, 1, 1)):
            self.assertIs(is_pointing(star(2), [ask], ["up", "down"]), True)
            self.assertIs(is_pointing(star(2), [ask], ["down", "up"]), True)
            self.assertIs(is_pointing(star(2), [ask], ["up", "up"]), False)
            self.assertIs(is_pointing(star(2), [ask], ["down", "down"]), False)

    def test_bush(self):
        # The way between 7 and 8 climbs 7, 4, 1 and then goes down 2, 5, 8.
        good = ["up", "down", "up", "up", "down", "down", "up", "down"]
        self.assertIs(is_pointing(bush(), [(7, 8, 1, 1)], good), True)
        turned = ["up" if text == "down" else "down" for text in good]
        self.assertIs(is_pointing(bush(), [(7, 8, 1, 1)], turned), True)
        for tie in (1, 2, 4, 5, 7, 8):
            bad = list(good)
            bad[tie - 1] = turned[tie - 1]
            self.assertIs(is_pointing(bush(), [(7, 8, 1, 1)], bad), False)
        for tie in (3, 6):
            other = list(good)
            other[tie - 1] = turned[tie - 1]
            self.assertIs(is_pointing(bush(), [(7, 8, 1, 1)], other), True)

    def test_asks_may_run_against_one_another(self):
        asks = [(0, 2, 1, 1), (2, 0, 1, 1), (1, 2, 5, 1)]
        self.assertIs(is_pointing(row(2), asks, ["up", "up"]), True)

    def test_no_asks(self):
        for pointing in itertools.product(("up", "down"), repeat=4):
            self.assertIs(is_pointing(([0, 1, 1, 0], [1] * 4), [], list(pointing)), True)

    def test_all_pointings_by_hand(self):
        for seed, tree in enumerate([row(5), star(5)] + some_trees(30, 6)):
            for many in (1, 2, 3, 5):
                asks = some_asks(tree, many, seed)
                for pointing in itertools.product(("up", "down"), repeat=len(tree[0])):
                    self.assertIs(is_pointing(tree, asks, list(pointing)), by_hand(tree, asks, pointing))

    def test_nothing_is_changed(self):
        things = (star(2), [(1, 2, 1, 1)], ["up", "down"])
        kept = copy.deepcopy(things)
        for turn in range(2):
            self.assertIs(is_pointing(*things), True)
            self.assertEqual(things, kept)


class NoPointings(unittest.TestCase):
    def none(self, thing):
        for asks in ([], [(1, 2, 1, 1)]):
            with self.subTest(thing=thing):
                self.assertIs(is_pointing(star(2), asks, thing), False)

    def test_lengths(self):
        self.none([])
        self.none(["up"])
        self.none(["up", "down", "up"])
        self.none(["up", "down"] * 12)

    def test_other_texts(self):
        for text in ("", "Up", "UP", "up ", " down", "DOWN", "u", "upp", "left", "p", "updown"):
            self.none(["up", text])
            self.none([text, "down"])

    def test_things_of_other_kinds(self):
        for thing in odd_things() + [0, ("up", "down"), "updown", "up", {"up": "down"}, {0: "up", 1: "down"}, Odd()]:
            self.none(thing)
            self.none(["up", thing if thing != "up" else None])
            self.none([thing if thing != "up" else None, "down"])
        self.none([b"up", b"down"])
        self.none([["up"], ["down"]])
        self.none([("up", "down")])

    def test_tree_and_asks_ahead(self):
        for thing in (None, ["up", "down"], []):
            for asks in ([], None):
                with self.assertRaises(NoTree):
                    is_pointing(([0, 1], [1, 0]), asks, thing)
            with self.assertRaises(NoAsks) as caught:
                is_pointing(star(2), [(0, 1, 1, 1), (2, 2, 1, 1)], thing)
            self.assertEqual(caught.exception.number, 1)


if __name__ == "__main__":
    unittest.main()
