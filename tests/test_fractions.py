import random
import unittest
from fractions import Fraction

from tests.cases import odd_things
from treeasks.errors import NoNumber
from treeasks.fractions import floor_of, fraction, minus, parted, plus, sum_of, times, under

BIG = 10 ** 59 + 7


def told(number):
    return (number.numerator, number.denominator)


def some_numbers():
    """Fractions of either sign, nought, and such of sixty figures."""
    chance = random.Random(4)
    numbers = [Fraction(0), Fraction(1), Fraction(-1), Fraction(7, 2), Fraction(-7, 2), Fraction(2, 7),
               Fraction(BIG, BIG + 1), Fraction(-BIG, 3), Fraction(1, BIG), Fraction(-1, BIG)]
    for turn in range(20):
        numbers.append(Fraction(chance.randint(-30, 30), chance.randint(1, 30)))
        numbers.append(Fraction(chance.randint(-10 ** 60, 10 ** 60), chance.randint(1, 10 ** 60)))
    return numbers


class Making(unittest.TestCase):
    def test_small_pairs(self):
        for top in range(-12, 13):
            for bottom in range(-12, 13):
                if bottom != 0:
                    self.assertEqual(fraction(top, bottom), told(Fraction(top, bottom)))

    def test_told_ones(self):
        self.assertEqual(fraction(6, 4), (3, 2))
        self.assertEqual(fraction(6, -4), (-3, 2))
        self.assertEqual(fraction(-6, -4), (3, 2))
        self.assertEqual(fraction(0, -9), (0, 1))
        self.assertEqual(fraction(5, 1), (5, 1))

    def test_sixty_figures(self):
        self.assertEqual(fraction(BIG * 6, BIG * 4), (3, 2))
        self.assertEqual(fraction(BIG, -BIG), (-1, 1))
        self.assertEqual(fraction(BIG, BIG + 1), (BIG, BIG + 1))
        self.assertEqual(fraction(10 ** 60 - 1, 9), ((10 ** 60 - 1) // 9, 1))

    def test_is_a_tuple_of_whole_numbers(self):
        self.assertIs(fraction(1, 2).__class__, tuple)
        self.assertEqual([part.__class__ for part in fraction(4, -2)], [int, int])

    def test_bottom_nought(self):
        for top in (0, 1, -1, BIG):
            with self.assertRaises(NoNumber):
                fraction(top, 0)

    def test_other_kinds_in_either_place(self):
        for thing in odd_things():
            for top, bottom in ((thing, 1), (1, thing), (thing, thing), (thing, 0), (0, thing)):
                with self.subTest(top=top, bottom=bottom), self.assertRaises(NoNumber):
                    fraction(top, bottom)


class Reckoning(unittest.TestCase):
    def test_plus_minus_times(self):
        for one in some_numbers():
            for other in some_numbers():
                self.assertEqual(plus(told(one), told(other)), told(one + other))
                self.assertEqual(minus(told(one), told(other)), told(one - other))
                self.assertEqual(times(told(one), told(other)), told(one * other))

    def test_parted(self):
        for one in some_numbers():
            for other in some_numbers():
                if other != 0:
                    self.assertEqual(parted(told(one), told(other)), told(one / other))

    def test_parted_by_nought(self):
        for one in ((0, 1), (1, 1), (-7, 2), (BIG, 3)):
            with self.assertRaises(NoNumber):
                parted(one, (0, 1))

    def test_under(self):
        for one in some_numbers():
            for other in some_numbers():
                self.assertIs(under(told(one), told(other)), one < other)

    def test_under_both_ways_about_and_of_alike_ones(self):
        self.assertIs(under((1, 3), (1, 2)), True)
        self.assertIs(under((1, 2), (1, 3)), False)
        self.assertIs(under((-1, 2), (-1, 3)), True)
        self.assertIs(under((1, 2), (1, 2)), False)
        self.assertIs(under((0, 1), (0, 1)), False)

    def test_floor(self):
        self.assertEqual(floor_of((-7, 2)), -4)
        self.assertEqual(floor_of((7, 2)), 3)
        self.assertEqual(floor_of((0, 1)), 0)
        self.assertEqual(floor_of((-3, 1)), -3)
        self.assertEqual(floor_of((-1, BIG)), -1)
        for one in some_numbers():
            self.assertEqual(floor_of(told(one)), one.__floor__())


class Sums(unittest.TestCase):
    def test_of_none(self):
        self.assertEqual(sum_of([]), (0, 1))

    def test_of_some(self):
        numbers = some_numbers()
        for many in range(1, len(numbers) + 1):
            some = numbers[:many]
            self.assertEqual(sum_of([told(one) for one in some]), told(sum(some)))

    def test_lowest_terms(self):
        self.assertEqual(sum_of([(1, 6), (1, 3), (1, 2)]), (1, 1))
        self.assertEqual(sum_of([(1, 6), (-1, 6)]), (0, 1))
        self.assertEqual(sum_of([(1, 4), (1, 4)]), (1, 2))

    def test_handed_list_stays(self):
        some = [(1, 2), (3, 4), (-1, 4)]
        self.assertEqual(sum_of(some), (1, 1))
        self.assertEqual(some, [(1, 2), (3, 4), (-1, 4)])
        self.assertEqual(sum_of(some), (1, 1))


if __name__ == "__main__":
    unittest.main()
