import random
import unittest

from tests.cases import Odd, big_trees, bush, check_own, odd_things, ones, row, some_asks, some_prices, some_trees, star
from treeasks.alike import keep_alike
from treeasks.best import best_keep
from treeasks.cuts import flow_and_cut
from treeasks.errors import AskError, NoPointing, NoText
from treeasks.mixed import keep_mixed
from treeasks.papertexts import read_numbers, read_prices, show_numbers, show_prices
from treeasks.unlike import keep_unlike


class Prices(unittest.TestCase):
    def test_told_ones(self):
        for prices, text in (([(0, 1)], "0"), ([(3, 1), (1, 2), (0, 1)], "3 1/2 0"), ([(7, 3)] * 3, "7/3 7/3 7/3"),
                             ([(10, 1)], "10"), ([(10 ** 59, 10 ** 59 + 1)], f"{10 ** 59}/{10 ** 59 + 1}"),
                             ([(0, 1)] * 40, " ".join(["0"] * 40))):
            self.assertEqual(show_prices(prices), text)
            self.assertEqual(read_prices(text), prices)

    def test_read_back(self):
        chance = random.Random(3)
        for tree in some_trees(40):
            prices = some_prices(tree, chance)
            self.assertEqual(read_prices(show_prices(prices)), prices)

    def test_all_told_prices_are_read_back(self):
        for seed, tree in enumerate([row(23), star(23), bush()] + big_trees(12, 9, 3)):
            for room in (1, 7, 59, 60):
                alike = (tree[0], [room] * len(tree[0]))
                asks = some_asks(tree, 30, seed, room, 10 ** 12)
                wide, narrow, pieces, units = keep_mixed(alike, asks)
                told = [pieces, units, keep_alike(alike, ones(asks))[1], keep_unlike(alike, ones(asks))[1]]
                try:
                    told.append(best_keep(alike, ones(asks))[1])
                except NoPointing:
                    pass
                for prices in told:
                    self.assertEqual(read_prices(show_prices(prices)), prices)

    def test_prices_of_long_bottoms_are_read_back(self):
        # Sizes just below half of a room, each ask through the ties of all others: bottoms grow by each of them.
        for room in (60, 59, 58):
            asks = [(k % 23, k % 23 + 1 + k % (23 - k % 23), 1 + k % (room // 2), 10 ** 12 - k) for k in range(30)]
            wide, narrow, pieces, units = keep_mixed(row(23, room), asks)
            for prices in (pieces, units):
                self.assertEqual(read_prices(show_prices(prices)), prices)
            prices = keep_alike(row(23, room), ones(asks))[1]
            self.assertEqual(read_prices(show_prices(prices)), prices)

    def test_figures(self):
        nines, ones_and_more = "9" * 70, "1" + "0" * 69
        self.assertEqual(read_prices(nines), [(int(nines), 1)])
        self.assertEqual(read_prices(f"{nines}/{ones_and_more}"), [(int(nines), int(ones_and_more))])
        self.assertEqual(read_prices(f"1/{nines} 0"), [(1, int(nines)), (0, 1)])


class Numbers(unittest.TestCase):
    def test_told_ones(self):
        for numbers, text in (([], "-"), ([0], "0"), ([0, 1, 2], "0 1 2"), ([3, 10, 11], "3 10 11"),
                              ([10 ** 59], str(10 ** 59)), (list(range(40)), " ".join(str(k) for k in range(40)))):
            self.assertEqual(show_numbers(numbers), text)
            self.assertEqual(read_numbers(text), numbers)

    def test_keeps_and_cuts_are_read_back(self):
        for seed, tree in enumerate([row(1), bush()] + some_trees(40)):
            asks = ones(some_asks(tree, seed % 31, seed))
            for numbers in (keep_unlike(tree, asks)[0], flow_and_cut(tree, asks)[1]):
                self.assertEqual(read_numbers(show_numbers(numbers)), numbers)

    def test_figures(self):
        nines = "9" * 70
        self.assertEqual(read_numbers(nines), [int(nines)])
        self.assertEqual(read_numbers("7 " + nines), [7, int(nines)])


class NoTexts(unittest.TestCase):
    def refused(self, function, thing):
        with self.subTest(function=function.__name__, thing=thing):
            with self.assertRaises(AskError) as caught:
                function(thing)
            self.assertIs(caught.exception.__class__, NoText)
            self.assertEqual(caught.exception.row, 0)

    def test_no_text(self):
        for thing in odd_things() + [Odd(), 0, 7, ["1"], [1], b"1", ("1",), {"1": 1}, [(1, 1)], (1, 2)]:
            if not isinstance(thing, str):
                self.refused(read_prices, thing)
                self.refused(read_numbers, thing)

    def test_in_both(self):
        for bad in ("", " ", "1 ", " 1", "1  2", "1\t2", "1\n2", "1\n", "1,2", "1;2", "+1", "-1", "- 1", "1 -",
                    "--", "01",
                    "00", "1.0", "1e1", "0x1", "1_0", "one", "None", "\n", "- ", " -", "(1, 2)", "[1]", "1:2", "1" * 71,
                    "0 " + "1" * 71, "1" * 3999, "0 -1", "0 +1", "0 01", "0 x"):
            self.refused(read_prices, bad)
            self.refused(read_numbers, bad)

    def test_prices(self):
        for bad in ("-", "3/1", "0/1", "1/1", "2/4", "0/5", "1/0", "0/0", "6/3", "1/", "/2", "/", "1//2", "1/2/3",
                    "-1/2",
                    "1/-2", "+1/2", "1/+2", "1 /2", "1/ 2", "1 / 2", "01/2", "1/02", "1/2,3", "1/2 2/4", "2/4 1/2",
                    "- 1/2",
                    "1\\2", "1/2 ", " 1/2", "1/2  1/3", "1/2\n1/3", "1/x", "x/2", "1/" + "9" * 71, "9" * 71 + "/2",
                    "1/1" + "0" * 70, "0 0 0 3/1", "4/2 0"):
            self.refused(read_prices, bad)

    def test_numbers_that_do_not_rise(self):
        for bad in ("1 1", "1 0", "0 0", "0 1 1", "0 2 1", "5 6 7 6", "10 9", "1/2", "0 1/2", "3/1"):
            self.refused(read_numbers, bad)

    def test_prices_need_not_rise(self):
        self.assertEqual(read_prices("2 1 1 0"), [(2, 1), (1, 1), (1, 1), (0, 1)])


class Own(unittest.TestCase):
    def test_nothing_is_changed_and_lists_are_new(self):
        check_own(self, show_prices, [(1, 2), (3, 1)])
        check_own(self, show_numbers, [1, 2])
        check_own(self, show_numbers, [])
        check_own(self, read_prices, "1/2 3")
        check_own(self, read_numbers, "1 2")
        check_own(self, read_numbers, "-")


if __name__ == "__main__":
    unittest.main()
