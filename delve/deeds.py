"""Deeds: what can be done at a stand, and the stand behind it."""

from delve.cellars import LAST, LEVERS, PAIR_NUMBER, PAIR_ROOM, THINGS, WAY_A, WAY_B, WAY_BACK, WAY_GATE, WAYS, WHEELS
from delve.errors import NoDeed
from delve.gates import gate_of
from delve.stands import BARS, OPENED, ROOM, TAKEN, WATER, held
from delve.whole import changed, has_bit, within

DEED_WORDS = ("go", "pull", "take", "turn", "unlock")


class Deed:
    # part: which of a cellar's lists the number counts in.
    def __init__(self, word, number, part):
        self.word = word
        self.number = number
        self.part = part

    def can(self, cellar, stand):
        if stand[ROOM] == cellar[LAST] or not within(self.number, 0, len(cellar[self.part]) - 1):
            return False
        return self.fits(cellar, stand)

    def told(self):
        return (self.word, self.number)

    def text(self):
        return " ".join([self.word, str(self.number)])

    def own_part(self, cellar):
        return cellar[self.part][self.number]


class Go(Deed):
    def __init__(self, number):
        Deed.__init__(self, "go", number, WAYS)

    def fits(self, cellar, stand):
        way = self.own_part(cellar)
        if not can_enter(way, stand[ROOM]):
            return False
        opened = has_bit(stand[OPENED], self.number)
        return gate_of(way[WAY_GATE]).lets(held(cellar, stand), opened, stand[BARS], stand[WATER])

    def done(self, cellar, stand):
        way = self.own_part(cellar)
        other_end = way[WAY_B] if stand[ROOM] == way[WAY_A] else way[WAY_A]
        return changed(stand, ROOM, other_end)


class Pull(Deed):
    def __init__(self, number):
        Deed.__init__(self, "pull", number, LEVERS)

    def fits(self, cellar, stand):
        return stand[ROOM] == self.own_part(cellar)[PAIR_ROOM]

    def done(self, cellar, stand):
        return changed(stand, BARS, stand[BARS] ^ self.own_part(cellar)[PAIR_NUMBER])


class Take(Deed):
    def __init__(self, number):
        Deed.__init__(self, "take", number, THINGS)

    def fits(self, cellar, stand):
        return stand[ROOM] == self.own_part(cellar)[PAIR_ROOM] and not has_bit(stand[TAKEN], self.number)

    def done(self, cellar, stand):
        return changed(stand, TAKEN, stand[TAKEN] | 1 << self.number)


class Turn(Deed):
    def __init__(self, number):
        Deed.__init__(self, "turn", number, WHEELS)

    def fits(self, cellar, stand):
        wheel = self.own_part(cellar)
        return stand[ROOM] == wheel[PAIR_ROOM] and stand[WATER] != wheel[PAIR_NUMBER]

    def done(self, cellar, stand):
        return changed(stand, WATER, self.own_part(cellar)[PAIR_NUMBER])


class Unlock(Deed):
    def __init__(self, number):
        Deed.__init__(self, "unlock", number, WAYS)

    def fits(self, cellar, stand):
        way = self.own_part(cellar)
        gate = way[WAY_GATE]
        if gate[0] != "door" or not can_enter(way, stand[ROOM]) or has_bit(stand[OPENED], self.number):
            return False
        return held(cellar, stand)[gate[1]] > 0

    def done(self, cellar, stand):
        return changed(stand, OPENED, stand[OPENED] | 1 << self.number)


def can_enter(way, room):
    return room == way[WAY_A] or (room == way[WAY_B] and way[WAY_BACK])


def deed_of(deed):
    word = deed[0]
    if word == "go":
        return Go(deed[1])
    if word == "pull":
        return Pull(deed[1])
    if word == "take":
        return Take(deed[1])
    if word == "turn":
        return Turn(deed[1])
    if word == "unlock":
        return Unlock(deed[1])
    raise NoDeed(None, deed)


def deeds_at(cellar, stand):
    return [deed.told() for deed in fit_deeds(cellar, stand)]


def behind(cellar, stand, deed):
    thing = deed_of(deed)
    if not thing.can(cellar, stand):
        raise NoDeed(stand, deed)
    return thing.done(cellar, stand)


# Pairs of a deed and the stand behind it: by `behind` each deed would be asked for a second time.
def leads(cellar, stand):
    return [(deed.told(), deed.done(cellar, stand)) for deed in fit_deeds(cellar, stand)]


def stands_by_go(cellar, stand):
    return [go.done(cellar, stand) for go in all_goes(cellar) if go.can(cellar, stand)]


def fit_deeds(cellar, stand):
    return [deed for deed in all_deeds(cellar) if deed.can(cellar, stand)]


def all_goes(cellar):
    return [Go(number) for number in range(len(cellar[WAYS]))]


# Laid in the order of deeds, by word, then by number, so that nothing need be sorted behind.
def all_deeds(cellar):
    pulls = [Pull(number) for number in range(len(cellar[LEVERS]))]
    takes = [Take(number) for number in range(len(cellar[THINGS]))]
    turns = [Turn(number) for number in range(len(cellar[WHEELS]))]
    unlocks = [Unlock(number) for number in range(len(cellar[WAYS]))]
    return all_goes(cellar) + pulls + takes + turns + unlocks
