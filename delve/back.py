"""Back from the end: how few deeds lead there, and from where none do."""

from delve.cellars import LAST
from delve.stands import ROOM, start
from delve.walks import counts_to, walk_from


def nears(cellar):
    walk = walk_from(cellar, start(cellar))
    counts = near_counts(cellar, walk)
    return sorted([(stand, counts.get(stand)) for stand in walk])


def shut_stands(cellar):
    return [stand for stand, near in nears(cellar) if near is None]


# The near numbers of a walk's stands, but of the shut ones none.
def near_counts(cellar, walk):
    return counts_to(ends_of(cellar, walk), walk)


def ends_of(cellar, walk):
    return [stand for stand in walk if stand[ROOM] == cellar[LAST]]
