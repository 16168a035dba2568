"""The desk, which keeps cases by names, is told rows of words and answers by texts."""

from treeasks.alike import keep_alike
from treeasks.best import best_keep
from treeasks.casetexts import read_case, show_case
from treeasks.changes import changed
from treeasks.cuts import flow_and_cut, rooms_of
from treeasks.errors import NoName, NoPointing, NoRow, NoShare, NoText, TooMany
from treeasks.hanging import hung, hung_asks
from treeasks.keeps import first_over, worth_of
from treeasks.mixed import keep_mixed, mixed_bound
from treeasks.numbers import whole_in
from treeasks.papertexts import read_numbers, read_prices, show_price
from treeasks.prices import bound_of
from treeasks.unlike import keep_unlike

MOST_CASES = 20
MOST_LETTERS = 8
MOST_ROW_FIGURES = 13
LETTERS = "abcdefghijklmnopqrstuvwxyz"
# The rows that have a name and nothing behind it.
NAME_ALONE = ("shown", "drop", "share", "best", "cut")
# How many numbers stand behind the word of each change.
CHANGE_NUMBERS = {"room": 2, "ask": 5, "more": 4, "less": 1, "hang": 2}


def look_at_name(word):
    if not 1 <= len(word) <= MOST_LETTERS or not all([sign in LETTERS for sign in word]):
        raise NoRow("a name has one to eight small letters")


def read_whole(word):
    number = whole_in(word, MOST_ROW_FIGURES)
    if number is None:
        raise NoRow("there a number is to stand")
    return number


def read_change(words):
    kind = words[0]
    if CHANGE_NUMBERS.get(kind) != len(words) - 1:
        raise NoRow("there is no such change")
    numbers = [read_whole(word) for word in words[1:]]
    if kind == "ask":
        return (kind, numbers[0], tuple(numbers[1:]))
    if kind == "more":
        return (kind, tuple(numbers))
    return tuple([kind] + numbers)


def read_paper(word, paper):
    text = paper.replace(",", " ")
    try:
        return read_prices(text) if word == "bound" else read_numbers(text)
    except NoText:
        raise NoRow("these are no prices or numbers that can be read") from None


def read_rest(word, words):
    if word in NAME_ALONE and not words:
        return None
    if word in ("bound", "fits") and len(words) == 1:
        return read_paper(word, words[0])
    if word == "hung" and len(words) == 1:
        return read_whole(words[0])
    if word == "change" and words:
        return read_change(words)
    raise NoRow("there is no such row")


def read_row(row):
    # Told are the first word, the name and what is read of all behind it.
    if not isinstance(row, str) or "\n" in row:
        raise NoRow("a row is a text without line feeds")
    if row == "names":
        return (row, None, None)
    words = row.split(" ")
    if len(words) < 2:
        raise NoRow("there is no such row")
    look_at_name(words[1])
    if words[0] != "case":
        return (words[0], words[1], read_rest(words[0], words[2:]))
    text = " ".join(words[2:])
    if text == "":
        raise NoRow("a case has a text")
    return ("case", words[1], text)


def share_alike(tree, asks):
    keep, prices, rests = keep_alike(tree, asks)
    return ("alike", worth_of(tree, asks, keep), bound_of(tree, asks, prices))


def share_mixed(tree, asks):
    wide, narrow, pieces, units = keep_mixed(tree, asks)
    worth = max(worth_of(tree, asks, wide), worth_of(tree, asks, narrow))
    return ("mixed", worth, mixed_bound(tree, asks, pieces, units))


def share_unlike(tree, asks):
    keep, prices = keep_unlike(tree, asks)
    return ("unlike", worth_of(tree, asks, keep), bound_of(tree, asks, prices))


RULES = (share_alike, share_mixed, share_unlike)


def say_share(tree, asks):
    for rule in RULES:
        try:
            word, worth, bound = rule(tree, asks)
        except NoShare:
            continue
        written = show_price(bound)
        return f"{word} {worth} {written}"
    return "none"


def say_best(tree, asks):
    try:
        keep, prices = best_keep(tree, asks)
    except NoPointing:
        return "ring"
    return str(worth_of(tree, asks, keep))


def say_cut(tree, asks):
    flow, cut = flow_and_cut(tree, asks)
    often, rooms = sum(flow), rooms_of(tree, cut)
    return f"{often} {rooms}"


def say_fits(tree, asks, keep):
    tie = first_over(tree, asks, keep)
    return "yes" if tie is None else str(tie)


def answer(word, tree, asks, rest):
    if word == "shown":
        return show_case(tree, asks).replace("\n", "; ")
    if word == "share":
        return say_share(tree, asks)
    if word == "best":
        return say_best(tree, asks)
    if word == "cut":
        return say_cut(tree, asks)
    if word == "bound":
        return show_price(bound_of(tree, asks, rest))
    return say_fits(tree, asks, rest)


class Desk:
    def __init__(self):
        self.cases = {}

    def say(self, row):
        word, name, rest = read_row(row)
        if word == "names":
            return " ".join(sorted(self.cases)) if self.cases else "-"
        if word == "case":
            self.stand(name, rest)
            return "ok"
        if name not in self.cases:
            raise NoName("nothing stands by this name")
        tree, asks = self.cases[name]
        if word == "drop":
            self.cases.pop(name)
        elif word == "change":
            self.cases[name] = changed(tree, asks, rest)
        elif word == "hung":
            self.cases[name] = (hung(tree, rest)[0], hung_asks(tree, asks, rest))
        else:
            return answer(word, tree, asks, rest)
        return "ok"

    def stand(self, name, text):
        found = read_case(text.replace("; ", "\n"))
        if name not in self.cases and len(self.cases) >= MOST_CASES:
            raise TooMany("no more cases can stand at this desk")
        self.cases[name] = found
