import random
import string
import unittest

from tests.cases import Odd, bush, odd_things, ones, row, some_asks, some_prices, some_trees, star
from treeasks.alike import keep_alike
from treeasks.casetexts import show_case
from treeasks.changes import changed
from treeasks.cuts import flow_and_cut
from treeasks.desk import Desk
from treeasks.errors import AskError, NoChange, NoKeep, NoName, NoPlace, NoPrices, NoRow, NoShare, NoText, TooMany
from treeasks.hanging import hung, hung_asks
from treeasks.keeps import first_over, worth_of
from treeasks.mixed import keep_mixed, mixed_bound
from treeasks.papertexts import show_numbers, show_prices
from treeasks.prices import bound_of
from treeasks.unlike import keep_unlike

TREE = ([0, 0, 1], [3, 5, 2])
ASKS = [(1, 2, 1, 4), (3, 2, 2, 9), (3, 0, 1, 1), (0, 1, 3, 7)]
TEXT = "tie 0 3; tie 0 5; tie 1 2; ask 1 2 1 4; ask 3 2 2 9; ask 3 0 1 1; ask 0 1 3 7"
TRIANGLE = [(1, 2, 1, 1), (2, 3, 1, 1), (3, 1, 1, 1)]


def written(tree, asks):
    return show_case(tree, asks).replace("\n", "; ")


def fraction_text(fraction):
    return show_prices([fraction])


def desk_with(tree, asks, name="a"):
    desk = Desk()
    desk.say(f"case {name} {written(tree, asks)}")
    return desk


def shown(desk):
    """All that stands there."""
    names = desk.say("names")
    return [] if names == "-" else [(name, desk.say(f"shown {name}")) for name in names.split(" ")]


class Cases(unittest.TestCase):
    def test_put_and_shown(self):
        desk = Desk()
        self.assertEqual(desk.say("case a " + TEXT), "ok")
        self.assertEqual(desk.say("shown a"), TEXT)
        self.assertEqual(desk.say("case bcdefghi tie 0 1"), "ok")
        self.assertEqual(desk.say("shown bcdefghi"), "tie 0 1")
        self.assertEqual(desk.say("shown a"), TEXT)

    def test_in_the_stead_of_one_there(self):
        desk = desk_with(TREE, ASKS)
        self.assertEqual(desk.say("case a tie 0 7"), "ok")
        self.assertEqual(shown(desk), [("a", "tie 0 7")])

    def test_names(self):
        desk = Desk()
        self.assertEqual(desk.say("names"), "-")
        for name in ("zeta", "b", "aa", "a", "names", "case", "drop"):
            self.assertEqual(desk.say(f"case {name} tie 0 1"), "ok")
        self.assertEqual(desk.say("names"), "a aa b case drop names zeta")
        self.assertEqual(desk.say("drop b"), "ok")
        self.assertEqual(desk.say("names"), "a aa case drop names zeta")

    def test_drop(self):
        desk = desk_with(TREE, ASKS)
        self.assertEqual(desk.say("drop a"), "ok")
        self.assertEqual(desk.say("names"), "-")
        with self.assertRaises(NoName):
            desk.say("shown a")
        with self.assertRaises(NoName):
            desk.say("drop a")
        self.assertEqual(desk.say("case a " + TEXT), "ok")
        self.assertEqual(desk.say("shown a"), TEXT)

    def test_twenty_names(self):
        desk = Desk()
        names = list(string.ascii_lowercase[:20])
        for name in names[::-1]:
            self.assertEqual(desk.say(f"case {name} tie 0 1"), "ok")
        self.assertEqual(desk.say("names"), " ".join(names))
        with self.assertRaises(TooMany):
            desk.say("case u tie 0 1")
        self.assertEqual(desk.say("names"), " ".join(names))
        self.assertEqual(desk.say("case t tie 0 2"), "ok")
        self.assertEqual(desk.say("shown t"), "tie 0 2")
        self.assertEqual(desk.say("drop c"), "ok")
        self.assertEqual(desk.say("case u tie 0 1"), "ok")
        with self.assertRaises(TooMany):
            desk.say("case c tie 0 1")

    def test_read_back(self):
        desk = Desk()
        for seed, tree in enumerate(some_trees(30)):
            text = written(tree, some_asks(tree, seed, seed))
            self.assertEqual(desk.say(f"case c {text}"), "ok")
            self.assertEqual(desk.say("shown c"), text)


class Shares(unittest.TestCase):
    def check(self, tree, asks, told):
        self.assertEqual(desk_with(tree, asks).say("share a"), told)

    def test_alike(self):
        # Prices 5/3, then 5/3 and a third of 4 - 5/3, which is 22/9: 3 times this, 5 - 22/9 and 4 - 22/9.
        self.check(row(1, 3), [(0, 1, 1, 5), (0, 1, 1, 4)], "alike 9 103/9")
        self.check(row(1, 3), [(0, 1, 1, 1), (0, 1, 1, 4)], "alike 5 64/9")
        self.check(row(1, 1), [(0, 1, 1, 1), (0, 1, 1, 4)], "alike 4 4")
        self.check(row(1, 7), [], "alike 0 0")
        self.check(row(2, 60), [], "alike 0 0")

    def test_mixed(self):
        # Wide 2 of 2 for 5, narrow 1 of 2 for 3: the greater one is 5; pieces 5, units 3 over a room of 2.
        self.check(row(1, 2), [(0, 1, 2, 5), (0, 1, 1, 3)], "mixed 5 11")
        self.check(row(1, 2), [(0, 1, 2, 3), (0, 1, 1, 5)], "mixed 5 13")
        # A piece at 1; units at 1/2, then 1/2 and half of 2 - 1/2, which is 5/4: 3 times this, and 2 - 5/4.
        self.check(row(1, 3), [(0, 1, 1, 1), (0, 1, 1, 2), (0, 1, 2, 1)], "mixed 3 11/2")

    def test_unlike(self):
        self.check(([0, 1], [1, 2]), [(0, 2, 1, 3), (0, 2, 1, 5), (1, 2, 1, 3), (1, 2, 1, 1), (0, 1, 1, 2)],
                   "unlike 8 8")
        self.check(([0, 1], [4, 61]), [(0, 2, 2, 3)], "unlike 3 3")
        self.check(row(1, 61), [(0, 1, 30, 3)], "unlike 3 3")
        self.check(([0, 1], [1, 2]), [], "unlike 0 0")

    def test_none(self):
        self.check(([0, 1], [4, 5]), [(0, 2, 3, 3)], "none")
        self.check(row(1, 2), [(0, 1, 3, 3)], "none")
        self.check(row(1, 61), [(0, 1, 31, 3)], "none")

    def test_the_first_rule_that_is_not_refused(self):
        seen = set()
        for seed, tree in enumerate([row(1, 1), star(3, 2), row(4, 60), row(4, 61)] + some_trees(80, 5, 4)):
            for rooms in (tree[1], [4] * len(tree[1])):
                for asks in (some_asks(tree, seed % 7, seed, 2), ones(some_asks(tree, seed % 7, seed))):
                    told = self.by_hand((tree[0], rooms), asks)
                    self.check((tree[0], rooms), asks, told)
                    seen.add(told.split(" ")[0])
        self.assertEqual(seen, {"alike", "mixed", "unlike", "none"})

    def by_hand(self, tree, asks):
        alike = len(set(tree[1])) == 1 and tree[1][0] <= 60
        if alike and all(ask[2] == 1 for ask in asks):
            keep, prices, rests = keep_alike(tree, asks)
            return f"alike {worth_of(tree, asks, keep)} {fraction_text(bound_of(tree, asks, prices))}"
        if alike and all(ask[2] <= tree[1][0] for ask in asks):
            wide, narrow, pieces, units = keep_mixed(tree, asks)
            worth = max(worth_of(tree, asks, wide), worth_of(tree, asks, narrow))
            return f"mixed {worth} {fraction_text(mixed_bound(tree, asks, pieces, units))}"
        try:
            keep, prices = keep_unlike(tree, asks)
        except NoShare:
            return "none"
        return f"unlike {worth_of(tree, asks, keep)} {fraction_text(bound_of(tree, asks, prices))}"


class Questions(unittest.TestCase):
    def test_best(self):
        self.assertEqual(desk_with(row(2, 1), [(0, 1, 1, 5), (1, 2, 1, 5), (0, 2, 1, 9)]).say("best a"), "10")
        self.assertEqual(desk_with(row(2, 1), []).say("best a"), "0")
        self.assertEqual(desk_with(star(3), TRIANGLE).say("best a"), "ring")
        with self.assertRaises(NoShare) as caught:
            desk_with(star(3), TRIANGLE + [(0, 1, 2, 1)]).say("best a")
        self.assertEqual(caught.exception.number, 3)
        with self.assertRaises(NoShare) as caught:
            desk_with(TREE, ASKS).say("best a")
        self.assertEqual(caught.exception.number, 1)

    def test_cut(self):
        self.assertEqual(desk_with(([0, 0, 0], [2, 3, 4]), TRIANGLE).say("cut a"), "3 5")
        self.assertEqual(desk_with(row(2, 4), []).say("cut a"), "0 0")
        for seed, tree in enumerate(some_trees(30)):
            asks = some_asks(tree, seed, seed)
            flow, cut = flow_and_cut(tree, asks)
            rooms = sum(tree[1][tie - 1] for tie in cut)
            self.assertEqual(desk_with(tree, asks).say("cut a"), f"{sum(flow)} {rooms}")

    def test_bound(self):
        desk = desk_with(TREE, ASKS)
        self.assertEqual(desk.say("bound a 1/2,0,3"), "37/2")
        self.assertEqual(desk.say("bound a 0,0,0"), "21")
        chance = random.Random(5)
        for seed, tree in enumerate(some_trees(30)):
            asks, prices = some_asks(tree, seed, seed), some_prices(tree, chance)
            told = desk_with(tree, asks).say("bound a " + show_prices(prices).replace(" ", ","))
            self.assertEqual(told, fraction_text(bound_of(tree, asks, prices)))

    def test_bound_of_other_prices_than_ties(self):
        desk = desk_with(TREE, ASKS)
        for prices, number in (("0", 1), ("0,0", 2), ("0,0,0,0", 3), ("0,0,0,0,0", 3)):
            with self.assertRaises(NoPrices) as caught:
                desk.say("bound a " + prices)
            self.assertEqual(caught.exception.number, number)

    def test_fits(self):
        desk = desk_with(TREE, ASKS)
        for keep, told in (("-", "yes"), ("0", "yes"), ("0,1", "yes"), ("0,1,2", "1"), ("1,2", "3"), ("3", "yes"),
                           ("0,3", "1"), ("0,1,2,3", "1")):
            self.assertEqual(desk.say("fits a " + keep), told)
        chance = random.Random(6)
        for seed, tree in enumerate(some_trees(30)):
            asks = some_asks(tree, seed, seed)
            keep = [number for number in range(len(asks)) if chance.random() < 0.3]
            told = desk_with(tree, asks).say("fits a " + show_numbers(keep).replace(" ", ","))
            self.assertEqual(told, str(first_over(tree, asks, keep) or "yes"))

    def test_fits_of_no_asks(self):
        desk = desk_with(TREE, ASKS)
        for keep, number in (("4", 0), ("0,4", 1), ("0,1,2,3,4", 4), ("9" * 70, 0)):
            with self.assertRaises(NoKeep) as caught:
                desk.say("fits a " + keep)
            self.assertEqual(caught.exception.number, number)

    def test_questions_change_nothing(self):
        desk = desk_with(TREE, ASKS)
        told = {}
        for turn in range(2):
            for question in ("names", "shown a", "share a", "cut a", "bound a 1,2,3", "fits a 0,3"):
                answer = desk.say(question)
                self.assertIsInstance(answer, str)
                self.assertEqual(told.setdefault(question, answer), answer)
            self.assertEqual(desk.say("shown a"), TEXT)


class Changes(unittest.TestCase):
    def check(self, words, change):
        desk = desk_with(TREE, ASKS)
        desk.say("case b " + TEXT)
        self.assertEqual(desk.say("change a " + words), "ok")
        self.assertEqual(desk.say("shown a"), written(*changed(TREE, ASKS, change)))
        self.assertEqual(desk.say("shown b"), TEXT)

    def test_each(self):
        self.check("room 2 9", ("room", 2, 9))
        self.check("room 3 1000000", ("room", 3, 10 ** 6))
        self.check("ask 0 3 1 2 1000000000000", ("ask", 0, (3, 1, 2, 10 ** 12)))
        self.check("more 0 2 4 5", ("more", (0, 2, 4, 5)))
        self.check("less 0", ("less", 0))
        self.check("less 3", ("less", 3))
        self.check("hang 3 8", ("hang", 3, 8))
        self.check("hang 0 1", ("hang", 0, 1))

    def test_one_behind_another(self):
        desk = desk_with(TREE, ASKS)
        for words in ("hang 0 4", "more 4 3 1 2", "less 0", "room 1 1", "ask 0 0 4 1 1"):
            self.assertEqual(desk.say("change a " + words), "ok")
        told = "tie 0 1; tie 0 5; tie 1 2; tie 0 4; ask 0 4 1 1; ask 3 0 1 1; ask 0 1 3 7; ask 4 3 1 2"
        self.assertEqual(desk.say("shown a"), told)

    def test_no_change(self):
        desk = desk_with(TREE, ASKS)
        for words in ("room 0 1", "room 4 1", "room 1 0", "room 1 1000001", "room 1 9999999999999", "ask 4 0 1 1 1",
                      "ask 0 0 0 1 1", "ask 0 0 4 1 1", "ask 0 0 1 0 1", "ask 0 0 1 1 1000000000001", "more 0 0 1 1",
                      "more 0 9 1 1", "less 4", "less 9999999999999", "hang 4 1", "hang 0 0"):
            with self.subTest(words=words), self.assertRaises(NoChange):
                desk.say("change a " + words)
            self.assertEqual(desk.say("shown a"), TEXT)

    def test_hung(self):
        for place in range(4):
            desk = desk_with(TREE, ASKS)
            desk.say("case b " + TEXT)
            self.assertEqual(desk.say(f"hung a {place}"), "ok")
            self.assertEqual(desk.say("shown a"), written(hung(TREE, place)[0], hung_asks(TREE, ASKS, place)))
            self.assertEqual(desk.say("shown b"), TEXT)
        for place in range(9):
            asks = some_asks(bush(), 9)
            desk = desk_with(bush(), asks)
            self.assertEqual(desk.say(f"hung a {place}"), "ok")
            self.assertEqual(desk.say("shown a"), written(hung(bush(), place)[0], hung_asks(bush(), asks, place)))

    def test_hung_from_no_place(self):
        desk = desk_with(TREE, ASKS)
        for place in ("4", "24", "9999999999999"):
            with self.assertRaises(NoPlace):
                desk.say("hung a " + place)
            self.assertEqual(desk.say("shown a"), TEXT)


def no_rows():
    """Rows that are none, whatever stands at the desk."""
    found = ["", " ", "  ", "\n", "a", "shown", "drop", "share", "best", "cut", "bound", "fits", "change", "hung",
             "case",
             "Names", "NAMES", "name", "names a", "names ", " names", "names names", "names\n", "names -", "show a",
             "say a", "shown  a", "shown a ", " shown a", "shown\ta", "shown a\n", "shown\na", "shown a b", "drop a b",
             "share a alike", "best a 1", "cut a 1", "shown a\t", "SHOWN a", "Shown a", "shown,a", "a shown", "keep a"]
    # What stands behind a name is asked of the word ahead of it.
    for word in ("shown", "drop", "share", "best", "cut", "names", "keep", "changed"):
        found += [f"{word} a {rest}" for rest in ("less 0", "room 1 1", "0", "0,0,0", "-", "tie 0 1")]
    found += ["hung a less 0", "bound a less 0", "fits a less 0", "change a 0", "change a 0,0,0", "change a -"]
    for name in ("", "A", "aB", "a1", "1", "-", "abcdefghi", "a_b", "a-b", "a.b", "a,b", "a;", "a\t", "'a'", "\ta"):
        found += [f"{word} {name}" for word in ("shown", "drop", "share", "best", "cut")]
        found += [f"case {name} tie 0 1", f"bound {name} 0,0,0", f"fits {name} 0", f"change {name} less 0",
                  f"hung {name} 0"]
    for word in ("bound a", "fits a", "change a", "hung a", "case a"):
        found += [word, word + " ", word + "\n"]
    for text in ("tie 0 1\n", "tie 0 1\ntie 0 1", "\n", "tie 0 1; tie 0 1\nask 0 1 1 1"):
        found.append(f"case a {text}")
    for prices in ("-", "3/1", "2/4", "0/5", "1/0", "0,0,-1", "0,0,+1", "0,,0", ",0,0,0", "0,0,0,", "0;0;0", "00,0,0",
                   "0,0,01", "0, 0,0", "0 0 0", "0,0,0 0", "x", "1.0,0,0", "0,0,1/", "0,0,/2", "0,0,1/2/3", "9" * 71,
                   "0,0,1/" + "9" * 71, "0,0,0\t", ",", "0,0,0\n"):
        found.append(f"bound a {prices}")
    for keep in ("--", "-,0", "0,-", ",", "0,", ",0", "0,,1", "1,0", "1,1", "01", "0,01", "+1", "-1", "0 1", "0, 1",
                 "x",
                 "1/2", "0;1", "9" * 71, "- -", "-\n", "0,1\t"):
        found.append(f"fits a {keep}")
    for number in ("", "00", "01", "+1", "-1", "x", "1.", "1/1", "1,", "10000000000000", "9" * 14, "-", "1\t", "a"):
        found.append(f"hung a {number}")
        for words in ("room N 1", "room 1 N", "ask N 0 1 1 1", "ask 0 N 1 1 1", "ask 0 0 N 1 1", "ask 0 0 1 N 1",
                      "ask 0 0 1 1 N", "more N 1 1 1", "more 0 N 1 1", "more 0 1 N 1", "more 0 1 1 N", "less N",
                      "hang N 1", "hang 0 N"):
            found.append("change a " + words.replace("N", number))
    for words in ("room", "room 1", "room 1 2 3", "ask 0 0 1 1", "ask 0 0 1 1 1 1", "more 0 1 1", "more 0 1 1 1 1",
                  "less",
                  "less 0 0", "hang", "hang 0", "hang 0 1 1", "Room 1 1", "rooms 1 1", "other 1 1", "", "0 1",
                  "room  1 1",
                  "room 1 1 ", " room 1 1", "room 1  1", "less 0\n", "less\n0", "ask 0 (0, 1, 1, 1)", "a less 0"):
        found.append("change a " + words)
    found += ["hung a 0 0", "hung a 0 ", "hung a  0", "bound a 0,0,0 0", "bound a  0,0,0", "fits a 0 ", "fits a  0"]
    return found


class Refusals(unittest.TestCase):
    def refused(self, desk, row_said, kind):
        ahead = shown(desk)
        with self.subTest(row=row_said):
            with self.assertRaises(AskError) as caught:
                desk.say(row_said)
            self.assertIs(caught.exception.__class__, kind)
        self.assertEqual(shown(desk), ahead)
        return caught.exception

    def test_no_rows(self):
        desk = desk_with(TREE, ASKS)
        for row_said in no_rows():
            self.refused(desk, row_said, NoRow)

    def test_no_rows_ahead_of_no_name(self):
        desk = Desk()
        for row_said in no_rows():
            self.refused(desk, row_said, NoRow)

    def test_no_text(self):
        desk = desk_with(TREE, ASKS)
        for thing in odd_things() + [Odd(), 0, 7, b"names", ["names"], ("shown", "a"), {"names": 1}]:
            if not isinstance(thing, str):
                self.refused(desk, thing, NoRow)

    def test_no_name(self):
        for desk in (Desk(), desk_with(TREE, ASKS)):
            for row_said in ("shown b", "drop b", "share b", "best b", "cut b", "bound b 0,0,0", "bound b 0",
                             "fits b -",
                             "fits b 99", "change b less 0", "change b room 0 0", "change b more 0 0 0 0", "hung b 0",
                             "hung b 99", "change b hang 9999999999999 0", "shown aa", "shown names", "shown abcdefgh"):
                self.refused(desk, row_said, NoName)

    def test_figures(self):
        desk = desk_with(TREE, ASKS)
        self.refused(desk, "hung a 9999999999999", NoPlace)
        self.refused(desk, "hung a 10000000000000", NoRow)
        self.refused(desk, "change a more 0 1 1 9999999999999", NoChange)
        self.refused(desk, "change a more 0 1 1 10000000000000", NoRow)
        self.assertEqual(desk.say("change a more 0 1 1 1000000000000"), "ok")
        # Within prices and keeps as they are read, seventy figures at most.
        self.assertEqual(desk.say("bound a " + "9" * 70 + ",0,0"), str(3 * int("9" * 70)))
        self.refused(desk, "fits a " + "9" * 70, NoKeep)

    def test_texts_of_cases(self):
        desk = desk_with(TREE, ASKS)
        for text, number in ((" ", 0), ("  ", 0), (" tie 0 1", 0), ("tie 0 1 ", 0), ("x", 0), ("-", 0), ("tie 0 01", 0),
                             ("tie  0 1", 0), ("tie 0 1; ", 1), ("; tie 0 1", 0), ("tie 0 1; tie 2 1", 1),
                             ("tie 0 1;", 0),
                             ("tie 0 1;tie 0 1", 0), ("tie 0 1 ; tie 0 1", 0), ("tie 0 1;  tie 0 1", 1), (";", 0),
                             ("tie 0 1, tie 0 1", 0), ("tie 0 1; ask 0 1 1 1; tie 0 1", 2), ("tie 0 1; ask 0 1 1 0", 1),
                             ("tie 0 1; ; tie 0 1", 1), ("tie 0 10000000000000000", 0), ("tie\t0 1", 0), ("\t", 0),
                             ("; ", 0), ("tie 0 1;\ttie 0 1", 0)):
            for name in ("a", "b"):
                self.assertEqual(self.refused(desk, f"case {name} {text}", NoText).row, number)

    def test_texts_ahead_of_too_many(self):
        desk = Desk()
        for name in string.ascii_lowercase[:20]:
            desk.say(f"case {name} tie 0 1")
        self.assertEqual(self.refused(desk, "case u tie 0 1; tie 9 1", NoText).row, 1)
        self.refused(desk, "case u tie 0 1", TooMany)
        self.refused(desk, "case u ", NoRow)
        self.refused(desk, "case U tie 0 1", NoRow)
        self.assertEqual(self.refused(desk, "case a tie 0 0", NoText).row, 0)
        self.refused(desk, "shown u", NoName)


class Own(unittest.TestCase):
    def test_two_desks_do_not_touch_each_other(self):
        one, other = Desk(), Desk()
        one.say("case a " + TEXT)
        self.assertEqual(other.say("names"), "-")
        other.say("case a tie 0 1")
        self.assertEqual(one.say("shown a"), TEXT)
        other.say("drop a")
        self.assertEqual(one.say("names"), "a")
        one.say("change a less 0")
        self.assertEqual(other.say("names"), "-")

    def test_cases_of_one_text_do_not_touch_each_other(self):
        desk = Desk()
        for name in ("a", "b"):
            desk.say(f"case {name} {TEXT}")
        desk.say("change a room 1 9")
        desk.say("hung a 3")
        self.assertEqual(desk.say("shown b"), TEXT)


if __name__ == "__main__":
    unittest.main()
