import math
import unittest

from tests.cases import odd_things
from treeasks.numbers import is_fraction, is_whole

BIG = 10 ** 59 + 7


class IsWhole(unittest.TestCase):
    def test_whole_numbers(self):
        for thing in (0, 1, -1, 2, -40, BIG, -BIG):
            self.assertIs(is_whole(thing), True)

    def test_truths_are_none(self):
        self.assertIs(is_whole(True), False)
        self.assertIs(is_whole(False), False)

    def test_things_of_other_kinds(self):
        for thing in odd_things():
            with self.subTest(thing=thing):
                self.assertIs(is_whole(thing), False)


class IsFraction(unittest.TestCase):
    def test_fractions(self):
        for thing in ((0, 1), (1, 1), (-1, 1), (7, 2), (-7, 2), (2, 7), (BIG, BIG + 1), (-BIG, 2), (1, BIG)):
            with self.subTest(thing=thing):
                self.assertIs(is_fraction(thing), True)

    def test_not_in_lowest_terms(self):
        for thing in ((0, 2), (2, 2), (6, 4), (-6, 4), (3 * BIG, 3), (BIG, BIG), (-2, 2), (0, BIG)):
            with self.subTest(thing=thing):
                self.assertIs(is_fraction(thing), False)

    def test_bottom_below_one(self):
        for thing in ((1, 0), (0, 0), (1, -1), (-1, -1), (-7, -2), (7, -2), (0, -1)):
            with self.subTest(thing=thing):
                self.assertIs(is_fraction(thing), False)

    def test_small_pairs_by_their_divisors(self):
        for top in range(-12, 13):
            for bottom in range(-12, 13):
                told = bottom >= 1 and math.gcd(top, bottom) == 1
                self.assertIs(is_fraction((top, bottom)), told)

    def test_lists_and_tuples_of_other_lengths(self):
        for thing in ([1, 2], [], (), (1,), (1, 2, 3), ((1, 2),), "12", {1: 2, 3: 4}, 1, 0, BIG):
            with self.subTest(thing=thing):
                self.assertIs(is_fraction(thing), False)

    def test_another_kind_in_a_place(self):
        for thing in odd_things():
            with self.subTest(thing=thing):
                self.assertIs(is_fraction(thing), False)
                self.assertIs(is_fraction((thing, 1)), False)
                self.assertIs(is_fraction((1, thing)), False)
                self.assertIs(is_fraction((thing, thing)), False)

    def test_truths_in_a_place(self):
        for thing in ((True, 2), (1, True), (False, 1), (True, True), (0, True), (3, False)):
            with self.subTest(thing=thing):
                self.assertIs(is_fraction(thing), False)


if __name__ == "__main__":
    unittest.main()
