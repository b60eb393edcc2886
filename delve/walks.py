"""Walks: the stands that come from one, how deep they lie, and the deeds between them."""

from delve.deeds import leads
from delve.errors import Wide
from delve.stands import start

MOST_STANDS = 300


def come(cellar, stand=None):
    return sorted(walk_from(cellar, begin_of(cellar, stand)))


def depths(cellar):
    begin = start(cellar)
    return sorted(counts_from([begin], links_of(walk_from(cellar, begin))).items())


def begin_of(cellar, stand):
    return start(cellar) if stand is None else stand


# A walk has, for each stand that comes from its begin, the pairs of a deed and the stand behind it; or Wide.
def walk_from(cellar, begin):
    walk = {begin: []}
    row = [begin]
    place = 0
    while place < len(row):
        here = row[place]
        place += 1
        pairs = leads(cellar, here)
        walk[here] = pairs
        for deed, other in pairs:
            if other not in walk:
                walk[other] = []
                row.append(other)
        # Asked here, not at the end: far more stands may come than can be walked.
        if len(row) > MOST_STANDS:
            raise Wide(f"more than {MOST_STANDS} stands come from {begin!r}")
    return walk


# What is left of a walk where these deeds are not done.
def walk_without(walk, begin, deeds):
    left = {}
    for stand, pairs in walk.items():
        left[stand] = [(deed, other) for deed, other in pairs if deed not in deeds]
    found = {}
    for stand in counts_from([begin], links_of(left)):
        found[stand] = left[stand]
    return found


def can_in(walk, stand, wanted):
    return any([deed == wanted for deed, other in walk[stand]])


# As few deeds as can be from the begin to one of the ends; None where none lead there.
def row_to(ends, begin, walk):
    counts = counts_to(ends, walk)
    if begin not in counts:
        return None
    row = []
    here = begin
    while counts[here] > 0:
        step = nearer(walk, counts, here)
        row.append(step[0])
        here = step[1]
    return row


# The first pair at the stand by which the count falls; None where there is none, as where the count is 0.
def nearer(walk, counts, stand):
    for deed, other in walk[stand]:
        if counts.get(other) == counts[stand] - 1:
            return (deed, other)
    return None


# For each stand from which one comes to one of the ends, how few deeds lead there.
def counts_to(ends, walk):
    return counts_from(ends, turned_links(links_of(walk)))


def links_of(walk):
    links = {}
    for stand, pairs in walk.items():
        links[stand] = [other for deed, other in pairs]
    return links


# For each stand that one comes to by links from the begins, how few of them lead there.
def counts_from(begins, links):
    row = list(begins)
    counts = {}
    for begin in begins:
        counts[begin] = 0
    place = 0
    while place < len(row):
        here = row[place]
        place += 1
        for other in links[here]:
            if other not in counts:
                counts[other] = counts[here] + 1
                row.append(other)
    return counts


def turned_links(links):
    turned = {}
    for stand in links:
        turned[stand] = []
    for stand, others in links.items():
        for other in others:
            turned[other].append(stand)
    return turned
