"""Ahead: which deeds must be done ahead of which, and which one is needed now."""

from delve.back import ends_of
from delve.errors import Shut
from delve.walks import begin_of, can_in, row_to, walk_from, walk_without


def must(cellar, one, other, stand=None):
    begin = begin_of(cellar, stand)
    walk = walk_from(cellar, begin)
    without = walk_without(walk, begin, [one])
    way = row_to(goals_of(cellar, walk, without, other), begin, without)
    if way is None:
        return ("yes", sorted(without))
    return ("no", way if other is None else way + [other])


def needed(cellar, stand=None):
    begin = begin_of(cellar, stand)
    return needed_in(cellar, begin, walk_from(cellar, begin))


def fewest(cellar, stand=None):
    begin = begin_of(cellar, stand)
    return fewest_in(cellar, begin, walk_from(cellar, begin))


def word(cellar, stand=None):
    begin = begin_of(cellar, stand)
    walk = walk_from(cellar, begin)
    wanted = needed_in(cellar, begin, walk)
    free = walk_without(walk, begin, wanted)
    for deed in wanted:
        if any([can_in(walk, here, deed) for here in free]):
            return deed
    return None


# The whole walk tells what can be done, for the other deed may be the one that was left out.
def goals_of(cellar, walk, without, other):
    if other is None:
        return ends_of(cellar, without)
    return [here for here in without if can_in(walk, here, other)]


def fewest_in(cellar, begin, walk):
    row = row_to(ends_of(cellar, walk), begin, walk)
    if row is None:
        raise Shut(begin)
    return row


# What is needed is in each row to the end, so no deed but those of a fewest one need be looked at.
def needed_in(cellar, begin, walk):
    row = fewest_in(cellar, begin, walk)
    deeds = sorted(set([deed for deed in row if deed[0] != "go"]))
    return [deed for deed in deeds if len(ends_of(cellar, walk_without(walk, begin, [deed]))) == 0]
