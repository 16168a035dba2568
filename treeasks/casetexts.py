"""Cases, each a tree and asks, written as rows and read back."""

from treeasks.asks import MOST_ASKS, is_ask, look_at_asks
from treeasks.errors import NoText
from treeasks.numbers import MOST_FIGURES, is_between, whole_in
from treeasks.trees import MOST_ROOM, MOST_TIES


def show_case(tree, asks):
    look_at_asks(tree, asks)
    ties = [f"tie {parent} {room}" for parent, room in zip(tree[0], tree[1])]
    wanted = [f"ask {one} {other} {size} {worth}" for one, other, size, worth in asks]
    return "\n".join(ties + wanted)


def numbers_behind(row, word):
    # None of a row that doesn't begin with the word, or where some word behind it is no number.
    words = row.split(" ")
    numbers = [whole_in(text, MOST_FIGURES) for text in words[1:]]
    return numbers if words[0] == word and None not in numbers else None


def is_next_tie(parents, numbers):
    if numbers is None or len(numbers) != 2 or len(parents) >= MOST_TIES:
        return False
    return is_between(numbers[0], 0, len(parents)) and is_between(numbers[1], 1, MOST_ROOM)


def is_next_ask(tree, asks, numbers):
    return numbers is not None and len(asks) < MOST_ASKS and is_ask(tree, tuple(numbers))


def read_case(text):
    if not isinstance(text, str):
        raise NoText(0)
    parents, rooms, asks = [], [], []
    for number, row in enumerate(text.split("\n")):
        tie = numbers_behind(row, "tie")
        ask = numbers_behind(row, "ask")
        if not asks and is_next_tie(parents, tie):
            parents.append(tie[0])
            rooms.append(tie[1])
        elif is_next_ask((parents, rooms), asks, ask):
            asks.append(tuple(ask))
        else:
            raise NoText(number)
    return ((parents, rooms), asks)
