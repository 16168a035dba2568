"""Gates, at which asks come one by one and are kept or sent at once."""

from treeasks.asks import MOST_ASKS, is_ask
from treeasks.errors import NoAsks, NoShare, TooMany
from treeasks.keeps import loads, over_with
from treeasks.rules import is_above_half
from treeasks.trees import look_at_tree


class Gate:
    def __init__(self, tree, by_sizes):
        look_at_tree(tree)
        self.tree = (list(tree[0]), list(tree[1]))
        self.by_sizes = by_sizes
        self.came = []
        self.held = []

    def is_too_wide(self, ask):
        return is_above_half(self.tree, ask) if self.by_sizes else ask[2] != 1

    def look_at_coming(self, ask):
        number = len(self.came)
        if not is_ask(self.tree, ask):
            raise NoAsks(number)
        if self.is_too_wide(ask):
            raise NoShare(number)
        if number >= MOST_ASKS:
            raise TooMany("no more asks can come to this gate")

    def come(self, ask):
        self.look_at_coming(ask)
        one, other, size, worth = ask
        fits = not over_with(self.tree, ask, self.load())
        if fits:
            self.held.append(len(self.came))
        self.came.append((one, other, size, size if self.by_sizes else 1))
        return fits

    def load(self):
        return loads(self.tree, self.came, self.held)

    def asks(self):
        return list(self.came)

    def kept(self):
        return list(self.held)

    def is_dear(self, load, room):
        return 2 * load > room if self.by_sizes else load == room

    def prices(self):
        return [(1, 1) if self.is_dear(load, room) else (0, 1) for load, room in zip(self.load(), self.tree[1])]
