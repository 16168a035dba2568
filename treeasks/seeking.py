"""Seeking a best keep together with the tree of reasons that shows it."""

from treeasks.asks import look_at_asks
from treeasks.best import best_keep
from treeasks.errors import NoPointing, NoShare
from treeasks.fractions import floor_of
from treeasks.numbers import greatest_common
from treeasks.reasons import MOST_BOTTOM, MOST_REASONS, MOST_TOP, kept_load, priced_sum, with_fate
from treeasks.unlike import fill_up, greatest_rate_first
from treeasks.ways import ways_of


def best_at_once(tree, asks):
    try:
        keep, prices = best_keep(tree, asks)
    except (NoShare, NoPointing):
        return None
    # Paths lead back over kept asks, so no price is more than the worth of one over its tie: each can be a top.
    return (keep, ("prices", 1, [top for top, bottom in prices]))


def common_bottom(rates):
    found = 1
    for top, bottom in rates:
        found = found // greatest_common(found, bottom) * bottom
    return found


def bottom_and_tops(rates):
    dearest = max([floor_of(rate) for rate in rates]) + 1
    bottom = common_bottom(rates)
    if bottom > MOST_BOTTOM or bottom * dearest > MOST_TOP:
        # Rounded rates are prices as well, only that what they show may be somewhat more.
        bottom = max(1, min(MOST_BOTTOM, MOST_TOP // dearest))
    return (bottom, [top * bottom // below for top, below in rates])


def first_full(tree, load):
    for number, room in enumerate(tree[1]):
        if load[number] > room:
            return number + 1
    return None


class Search:
    def __init__(self, tree, wants, most):
        self.tree = tree
        self.wants = wants
        self.ways = ways_of(tree, wants)
        self.order = greatest_rate_first(wants)
        self.left = most
        self.best = []
        self.worth = 0

    def filled(self, fates):
        ahead = [number for number, fate in enumerate(fates) if fate is True]
        order = [number for number in self.order if fates[number] is None]
        return fill_up(self.tree, self.wants, self.ways, ahead, order)

    def note(self, keep):
        worth = sum([self.wants[number][3] for number in keep])
        if worth > self.worth:
            self.best = keep
            self.worth = worth

    def reasons(self, fates):
        # None where they would be too many. An ask is split once on a way, so calls go no deeper than there are asks.
        if self.left < 1:
            return None
        self.left -= 1
        full = first_full(self.tree, kept_load(self.tree, self.wants, self.ways, fates))
        if full is not None:
            return ("full", full)
        keep, rates, sent = self.filled(fates)
        self.note(keep)
        bottom, tops = bottom_and_tops(rates)
        if priced_sum(self.tree, self.wants, self.ways, fates, bottom, tops) // bottom <= self.worth:
            return ("prices", bottom, tops)
        # Where none is sent all rates are nought, and the sum is the keep's worth: so here there is one to split.
        return self.split_at(fates, sent[0])

    def split_at(self, fates, number):
        if_kept = self.reasons(with_fate(fates, number, True))
        if_sent = None if if_kept is None else self.reasons(with_fate(fates, number, False))
        return None if if_sent is None else ("split", number, if_kept, if_sent)


def seek(tree, asks, most):
    look_at_asks(tree, asks)
    found = best_at_once(tree, asks)
    if found is not None:
        return ("best", found[0], found[1])
    search = Search(tree, asks, min(most, MOST_REASONS))
    reasons = search.reasons([None] * len(asks))
    return ("open", search.best) if reasons is None else ("best", search.best, reasons)
