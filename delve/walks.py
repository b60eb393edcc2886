"""Walks: the stands that come from one, and how deep they lie."""

from delve.deeds import leads
from delve.errors import Wide
from delve.stands import start

MOST_STANDS = 300


def come(cellar, stand=None):
    return sorted(links_from(cellar, start(cellar) if stand is None else stand))


def depths(cellar):
    begin = start(cellar)
    return sorted(counts_from([begin], links_from(cellar, begin)).items())


# For each stand that comes from the one told, the stands to which one deed leads; or Wide.
def links_from(cellar, begin):
    links = {begin: []}
    row = [begin]
    place = 0
    while place < len(row):
        here = row[place]
        place += 1
        others = [other for deed, other in leads(cellar, here)]
        links[here] = others
        for other in others:
            if other not in links:
                links[other] = []
                row.append(other)
        # Asked here, not at the end: far more stands may come than can be walked.
        if len(row) > MOST_STANDS:
            raise Wide(f"more than {MOST_STANDS} stands come from {begin!r}")
    return links


# For each stand that one comes to by links from the begins, how few of them lead there.
def counts_from(begins, links):
    row = list(begins)
    counts = {}
    for begin in begins:
        counts[begin] = 0
    place = 0
    while place < len(row):
        here = row[place]
        place += 1
        for other in links[here]:
            if other not in counts:
                counts[other] = counts[here] + 1
                row.append(other)
    return counts


def turned_links(links):
    turned = {}
    for stand in links:
        turned[stand] = []
    for stand, others in links.items():
        for other in others:
            turned[other].append(stand)
    return turned
