"""Trees hung from another place, and all papers carried over."""

from treeasks.asks import look_at_asks
from treeasks.errors import NoPlace
from treeasks.prices import look_at_prices
from treeasks.trees import is_place, look_at_tree


def neighbours(tree):
    # A parent's number is less than its children's, so each place has its neighbours by their numbers.
    found = [[] for place in range(len(tree[0]) + 1)]
    for number, parent in enumerate(tree[0]):
        found[number + 1].append(parent)
        found[parent].append(number + 1)
    return found


def met_from(tree, place):
    beside = neighbours(tree)
    met = [place]
    gone = 0
    while gone < len(met):
        met.extend([other for other in beside[met[gone]] if other not in met])
        gone += 1
    return met


def order_from(tree, place):
    if not is_place(tree, place):
        raise NoPlace("a tree hangs from one of its places")
    met = met_from(tree, place)
    return [met.index(old) for old in range(len(met))]


def ties_from(tree, place):
    # By the old ties their new numbers: places are met behind their parents, so the lower end has the greater number.
    order = order_from(tree, place)
    return [max(order[number + 1], order[parent]) for number, parent in enumerate(tree[0])]


def moved(ties, things):
    found = list(things)
    for tie, thing in zip(ties, things):
        found[tie - 1] = thing
    return found


def hung(tree, place):
    look_at_tree(tree)
    order = order_from(tree, place)
    ties = ties_from(tree, place)
    uppers = [min(order[number + 1], order[parent]) for number, parent in enumerate(tree[0])]
    return ((moved(ties, uppers), moved(ties, tree[1])), order)


def hung_asks(tree, asks, place):
    look_at_asks(tree, asks)
    order = order_from(tree, place)
    return [(order[one], order[other], size, worth) for one, other, size, worth in asks]


def hung_prices(tree, place, prices):
    look_at_tree(tree)
    ties = ties_from(tree, place)
    look_at_prices(tree, prices)
    return moved(ties, prices)


def hung_cut(tree, place, cut):
    look_at_tree(tree)
    ties = ties_from(tree, place)
    return sorted([ties[tie - 1] for tie in cut])


def other_text(text):
    return "down" if text == "up" else "up"


def hung_pointing(tree, asks, place, pointing):
    look_at_asks(tree, asks)
    order = order_from(tree, place)
    ties = ties_from(tree, place)
    # A tie is called by its lower place: where that is its old parent there, its ends have changed.
    lower = [order[number + 1] for number in range(len(ties))]
    return moved(ties, [text if tie == low else other_text(text) for text, tie, low in zip(pointing, ties, lower)])


def hung_ring(tree, asks, place, ring):
    look_at_asks(tree, asks)
    ties = ties_from(tree, place)
    return [(ties[tie - 1], number) for tie, number in ring]


def reasons_from_top(reasons):
    # Each one ahead of those below it, the kept ones' side first.
    found = []
    waiting = [reasons]
    while waiting:
        one = waiting.pop()
        found.append(one)
        if one[0] == "split":
            waiting.append(one[3])
            waiting.append(one[2])
    return found


def hung_leaf(ties, leaf):
    if leaf[0] == "full":
        return ("full", ties[leaf[1] - 1])
    return ("prices", leaf[1], moved(ties, leaf[2]))


def hung_reasons(tree, asks, place, reasons):
    look_at_asks(tree, asks)
    ties = ties_from(tree, place)
    # Built from below by a list, not by calls within calls: a tree may be deeper than these can go.
    built = []
    for one in reversed(reasons_from_top(reasons)):
        if one[0] == "split":
            if_kept = built.pop()
            if_sent = built.pop()
            built.append(("split", one[1], if_kept, if_sent))
        else:
            built.append(hung_leaf(ties, one))
    return built[0]
