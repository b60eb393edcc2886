"""Papers: what shows that a cellar is never stuck, or that it is, and who checks it."""

from delve.back import near_counts
from delve.cellars import LAST
from delve.deeds import behind, leads
from delve.errors import NoDeed
from delve.stands import ROOM, is_stand, start
from delve.walks import come, nearer, row_to, walk_from


def judged(cellar):
    begin = start(cellar)
    walk = walk_from(cellar, begin)
    counts = near_counts(cellar, walk)
    shut = [stand for stand in walk if stand not in counts]
    if len(shut) == 0:
        return ("never", [paper_line(walk, counts, stand) for stand in sorted(walk)])
    way = row_to(shut, begin, walk)
    return ("stuck", way, come(cellar, end_of(cellar, way)))


# Looked at line by line, without a walk: so a paper is never refused as Wide, whoever wrote it.
def holds(cellar, paper):
    numbers = {}
    for stand, deed, number in paper:
        numbers[stand] = number
    if len(numbers) != len(paper) or start(cellar) not in numbers:
        return False
    return all([line_holds(cellar, numbers, line) for line in paper])


def shows_stuck(cellar, way, stands):
    known = {}
    for stand in stands:
        known[stand] = True
    if end_of(cellar, way) not in known:
        return False
    return all([stays_among(cellar, known, stand) for stand in known])


def paper_line(walk, counts, stand):
    step = nearer(walk, counts, stand)
    return (stand, None if step is None else step[0], counts[stand])


# The stand behind a row of deeds from the start; None where one of them can't be done.
def end_of(cellar, way):
    here = start(cellar)
    try:
        for deed in way:
            here = behind(cellar, here, deed)
    except NoDeed:
        return None
    return here


def line_holds(cellar, numbers, line):
    stand = line[0]
    # Asked first: what can be done is only told of stands.
    if not is_stand(cellar, stand):
        return False
    pairs = leads(cellar, stand)
    if any([other not in numbers for deed, other in pairs]):
        return False
    return falls(cellar, numbers, line, pairs)


def falls(cellar, numbers, line, pairs):
    number = line[2]
    if number == 0:
        return line[0][ROOM] == cellar[LAST] and line[1] is None
    if number < 0:
        return False
    return any([deed == line[1] and numbers[other] < number for deed, other in pairs])


def stays_among(cellar, known, stand):
    if not is_stand(cellar, stand) or stand[ROOM] == cellar[LAST]:
        return False
    return all([other in known for deed, other in leads(cellar, stand)])
