import copy
import unittest

from tests.cases import Odd, big_trees, bush, check_own, odd_things, row, some_asks, some_trees, star
from treeasks.casetexts import read_case, show_case
from treeasks.errors import AskError, NoAsks, NoText, NoTree

CASE = (([0, 0, 1], [3, 10 ** 6, 2]), [(1, 2, 1, 4), (3, 0, 10 ** 6, 10 ** 12)])
TEXT = "tie 0 3\ntie 0 1000000\ntie 1 2\nask 1 2 1 4\nask 3 0 1000000 1000000000000"


def cases():
    found = [(row(1), []), (row(23, 10 ** 6), []), (star(23, 1), []), CASE]
    for seed, tree in enumerate([bush()] + some_trees(20) + big_trees(5, 10 ** 6, 1)):
        found.append((tree, some_asks(tree, seed + 5 if seed < 21 else 30, seed, 10 ** 6, 10 ** 12)))
    return found


class Written(unittest.TestCase):
    def test_told_ones(self):
        self.assertEqual(show_case(*CASE), TEXT)
        self.assertEqual(show_case(([0], [1]), []), "tie 0 1")
        self.assertEqual(show_case(([0], [1]), [(1, 0, 2, 3)]), "tie 0 1\nask 1 0 2 3")

    def test_read_back(self):
        for case in cases():
            text = show_case(*case)
            self.assertEqual(read_case(text), case)
            self.assertEqual(show_case(*read_case(text)), text)
            self.assertEqual(len(text.split("\n")), len(case[0][0]) + len(case[1]))

    def test_kinds(self):
        case = read_case(TEXT)
        self.assertIsInstance(case, tuple)
        self.assertIsInstance(case[0], tuple)
        self.assertEqual([thing.__class__ for thing in case[0] + (case[1], case[1][0])], [list, list, list, tuple])

    def test_tree_then_asks(self):
        for asks in (None, []):
            with self.assertRaises(NoTree) as caught:
                show_case(([0, 1], [1, 0]), asks)
            self.assertEqual((caught.exception.part, caught.exception.number), ("rooms", 1))
        for asks, number in ((None, None), (CASE[1] + [(1, 1, 1, 1)], 2)):
            with self.assertRaises(NoAsks) as caught:
                show_case(CASE[0], asks)
            self.assertEqual(caught.exception.number, number)

    def test_own(self):
        check_own(self, show_case, *copy.deepcopy(CASE))
        check_own(self, read_case, TEXT)
        check_own(self, read_case, "tie 0 1")


class NoTexts(unittest.TestCase):
    def refused(self, thing, number):
        with self.subTest(thing=thing):
            with self.assertRaises(AskError) as caught:
                read_case(thing)
            self.assertIs(caught.exception.__class__, NoText)
            self.assertEqual(caught.exception.row, number)

    def each_row(self, bad):
        """In the stead of each row, and behind each row, it is the first one that can't stand."""
        rows = TEXT.split("\n")
        for number in range(len(rows)):
            self.refused("\n".join(rows[:number] + [bad] + rows[number + 1:]), number)
            self.refused("\n".join(rows[:number] + [bad] + rows[number:]), number)
        self.refused(TEXT + "\n" + bad, len(rows))

    def test_no_text(self):
        for thing in odd_things() + [Odd(), 0, 7, [TEXT], (TEXT,), TEXT.encode(), {TEXT: 1}, [["tie", 0, 3]], CASE]:
            if not isinstance(thing, str):
                self.refused(thing, 0)

    def test_empty(self):
        self.refused("", 0)
        self.refused("\n", 0)
        self.refused("\n" + TEXT, 0)
        self.refused(" ", 0)

    def test_a_line_feed_behind_the_last_row(self):
        self.refused(TEXT + "\n", 5)
        self.refused("tie 0 1\n", 1)
        self.refused("tie 0 1\n\n", 1)

    def test_words(self):
        for bad in ("", " ", "tie", "ask", "tie 0", "tie 0 1 1", "ask 0 1 1", "ask 0 1 1 1 1", "ask 0", "Tie 0 1",
                    "TIE 0 1", "ties 0 1", "0 1", "ask0 1 1 1", "tie0 1", "place 0 1", "tie ask 0 1", "ask tie 0 1",
                    "tie 0 1 ask 0 1 1 1", "# tie 0 1", "tie 0,1", "tie: 0 1", "tie 0 1; tie 0 1", "tie 0 1;"):
            self.each_row(bad)

    def test_blanks(self):
        for good in ("tie 0 1", "ask 0 1 1 1"):
            for bad in (" " + good, good + " ", good.replace(" ", "  ", 1), good.replace(" ", "\t"), good[::-1],
                        good[:-2] + "  1", "\t" + good, good + "\t", good.replace(" 1", "\t1", 1)):
                self.each_row(bad)

    def test_numbers(self):
        for bad in ("", "00", "01", "+1", "-1", "-0", "+0", "1.", "1.0", "1e0", "0x1", "1_0", "one", "None", "True",
                    "1,0", "1/1", "(1)", "'1'", "1;", "10000000000000000000000", "9" * 70, "1" * 71, "1" * 3000):
            for row_with in ("tie N 1", "tie 0 N", "ask N 0 1 1", "ask 0 N 1 1", "ask 0 1 N 1", "ask 0 1 1 N"):
                self.each_row(row_with.replace("N", bad))

    def test_a_nought_ahead(self):
        self.refused("tie 00 1", 0)
        self.refused("tie 0 01", 0)
        self.refused("tie 0 1\ntie 01 1", 1)
        self.refused("tie 0 1\nask 0 1 1 01", 1)

    def test_a_tie_behind_an_ask(self):
        self.refused("tie 0 1\nask 0 1 1 1\ntie 0 1", 2)
        self.refused("tie 0 1\nask 0 1 1 1\ntie 0 1\nask 0 0 1 1", 2)

    def test_an_ask_first(self):
        self.refused("ask 0 1 1 1", 0)
        self.refused("ask 0 1 1 1\ntie 0 1", 0)

    def test_rows_that_make_no_tree(self):
        self.refused("tie 1 1", 0)
        self.refused("tie 0 1\ntie 2 1", 1)
        self.refused("tie 0 1\ntie 1 1\ntie 3 1", 2)
        self.refused("tie 0 0", 0)
        self.refused("tie 0 1000001", 0)
        self.refused("tie 0 1\ntie 0 0\ntie 9 9", 1)
        self.assertEqual(read_case("tie 0 1\ntie 1 1000000"), (([0, 1], [1, 10 ** 6]), []))

    def test_rows_that_make_no_asks(self):
        for bad in ("ask 0 0 1 1", "ask 2 2 1 1", "ask 0 3 1 1", "ask 3 0 1 1", "ask 0 1 0 1", "ask 0 1 1000001 1",
                    "ask 0 1 1 0", "ask 0 1 1 1000000000001"):
            self.refused("tie 0 1\ntie 1 1\n" + bad, 2)
            self.refused("tie 0 1\ntie 1 1\nask 0 1 1 1\n" + bad + "\nno", 3)

    def test_an_ask_of_a_place_that_comes_later(self):
        self.refused("tie 0 1\nask 0 2 1 1\ntie 0 1", 1)

    def test_the_twenty_fourth_tie(self):
        text = "\n".join(["tie 0 1"] * 23)
        self.assertEqual(read_case(text), (star(23, 1), []))
        self.refused(text + "\ntie 0 1", 23)
        self.refused(text + "\ntie 0 1\ntie 0 1", 23)

    def test_the_thirty_first_ask(self):
        text = "\n".join(["tie 0 5"] + ["ask 0 1 1 1"] * 30)
        self.assertEqual(read_case(text), (row(1), [(0, 1, 1, 1)] * 30))
        self.refused(text + "\nask 0 1 1 1", 31)
        self.refused(text + "\nask 0 1 1 1\nask 0 1 1 1", 31)


if __name__ == "__main__":
    unittest.main()
