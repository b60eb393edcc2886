"""Back from the end: how few deeds lead there, and from where none do."""

from delve.cellars import LAST
from delve.stands import ROOM, start
from delve.walks import counts_from, links_from, turned_links


def nears(cellar):
    links = links_from(cellar, start(cellar))
    ends = [stand for stand in links if stand[ROOM] == cellar[LAST]]
    counts = counts_from(ends, turned_links(links))
    return sorted([(stand, counts.get(stand)) for stand in links])


def shut_stands(cellar):
    return [stand for stand, near in nears(cellar) if near is None]
