"""Folds: the stands between which one can go round freely, taken as one."""

from delve.cellars import ROOMS
from delve.deeds import leads, stands_by_go
from delve.stands import ROOM
from delve.walks import come, counts_from, turned_links
from delve.whole import changed


def round_of(cellar, stand):
    links = go_links(cellar, stand)
    gone_to = counts_from([stand], links)
    gone_from = counts_from([stand], turned_links(links))
    return sorted([other for other in gone_to if other in gone_from])


def fold(cellar, stand):
    return round_of(cellar, stand)[0]


def folds(cellar):
    least = []
    folded = {}
    for stand in come(cellar):
        # The stands come sorted, and a round comes whole: its first one here is its least.
        if stand not in folded:
            least.append(stand)
            for other in round_of(cellar, stand):
                folded[other] = True
    return least


def steps(cellar, stand):
    own_round = round_of(cellar, stand)
    found = {}
    for here in own_round:
        for deed, other in leads(cellar, here):
            if other not in own_round:
                found[(deed, fold(cellar, other))] = True
    return sorted(found)


# A go changes the room alone, so all stands of a round are among these.
def go_links(cellar, stand):
    links = {}
    for room in range(cellar[ROOMS]):
        here = changed(stand, ROOM, room)
        links[here] = stands_by_go(cellar, here)
    return links
