"""Gates: what lets one go by a way, as tuples and as objects."""

from delve.errors import NoCellar
from delve.whole import LAST_BAR, LAST_KIND, TOP_HEIGHT, has_bit, within


class Gate:
    def __init__(self, word, numbers):
        self.word = word
        self.numbers = numbers

    def told(self):
        return (self.word,) + self.numbers

    def text(self):
        return " ".join([str(part) for part in self.told()])


class Plain(Gate):
    def __init__(self):
        Gate.__init__(self, "plain", ())

    def lets(self, held, opened, bars, water):
        return True


class Door(Gate):
    def __init__(self, kind):
        Gate.__init__(self, "door", (kind,))

    def lets(self, held, opened, bars, water):
        return opened


class Need(Gate):
    def __init__(self, kind):
        Gate.__init__(self, "need", (kind,))
        self.kind = kind

    def lets(self, held, opened, bars, water):
        return held[self.kind] > 0


class Bar(Gate):
    def __init__(self, bar):
        Gate.__init__(self, "bar", (bar,))
        self.bar = bar

    def lets(self, held, opened, bars, water):
        return has_bit(bars, self.bar)


class Wade(Gate):
    def __init__(self, height, kind):
        Gate.__init__(self, "wade", (height, kind))
        self.height = height
        self.kind = kind

    def lets(self, held, opened, bars, water):
        return water <= self.height or held[self.kind] > 0


class Float(Gate):
    def __init__(self, height):
        Gate.__init__(self, "float", (height,))
        self.height = height

    def lets(self, held, opened, bars, water):
        return water >= self.height


def gate_of(gate):
    word = gate[0]
    if word == "plain":
        return Plain()
    if word == "door":
        return Door(gate[1])
    if word == "need":
        return Need(gate[1])
    if word == "bar":
        return Bar(gate[1])
    if word == "wade":
        return Wade(gate[1], gate[2])
    if word == "float":
        return Float(gate[1])
    raise NoCellar(f"{word!r} is no gate's word")


def is_gate(thing):
    # A list that were let by as a gate could be changed later within a cellar.
    if not isinstance(thing, tuple) or len(thing) == 0:
        return False
    tops = tops_of(thing[0])
    numbers = thing[1:]
    if tops is None or len(numbers) != len(tops):
        return False
    return all([within(number, 0, top) for number, top in zip(numbers, tops)])


def tops_of(word):
    if word == "plain":
        return ()
    if word == "door" or word == "need":
        return (LAST_KIND,)
    if word == "bar":
        return (LAST_BAR,)
    if word == "wade":
        return (TOP_HEIGHT, LAST_KIND)
    if word == "float":
        return (TOP_HEIGHT,)
    return None
