"""Kept: a cellar that is asked about, and whose gates are changed."""

from delve.ahead import needed
from delve.back import nears
from delve.cellars import WAY_GATE, WAYS, made_of
from delve.errors import NoCellar
from delve.papers import judged
from delve.stands import start
from delve.walks import walk_from
from delve.whole import changed, within


class Kept:
    def __init__(self, cellar):
        check_not_wide(cellar)
        self.made = cellar

    def cellar(self):
        return self.made

    # Each answer is worked out anew: none that was told before can be wrong behind a change.
    def judged(self):
        return judged(self.made)

    def needed(self):
        return needed(self.made)

    def nears(self):
        return nears(self.made)

    def change(self, way, gate):
        made = with_gate(self.made, way, gate)
        check_not_wide(made)
        self.made = made


def check_not_wide(cellar):
    walk_from(cellar, start(cellar))


def with_gate(cellar, way, gate):
    ways = cellar[WAYS]
    # Asked first: Python would count a number below 0 from the end.
    if not within(way, 0, len(ways) - 1):
        raise NoCellar(f"{way!r} is no way of the cellar")
    own = changed(ways[way], WAY_GATE, gate)
    return made_of(changed(cellar, WAYS, changed(ways, way, own)))
