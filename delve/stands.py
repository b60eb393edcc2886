"""Stands: where one is in a cellar, and what was done to it so far."""

from delve.cellars import FIRST, FIRST_BARS, FIRST_WATER, ROOMS, THINGS, WAYS
from delve.whole import ALL_BARS, LAST_KIND, TOP_HEIGHT, has_bit, within

# Where each part stands in a stand's tuple.
ROOM = 0
TAKEN = 1
OPENED = 2
BARS = 3
WATER = 4

PARTS = 5


def start(cellar):
    return (cellar[FIRST], 0, 0, cellar[FIRST_BARS], cellar[FIRST_WATER])


def held(cellar, stand):
    counts = [0] * (LAST_KIND + 1)
    for number, thing in enumerate(cellar[THINGS]):
        if has_bit(stand[TAKEN], number):
            counts[thing[1]] += 1
    for number, kind in enumerate(door_kinds(cellar)):
        if has_bit(stand[OPENED], number):
            counts[kind] -= 1
    return counts


def is_stand(cellar, thing):
    if len(thing) != PARTS:
        return False
    # The count of what is held comes last: it takes the bits as good ones.
    return (
        within(thing[ROOM], 0, cellar[ROOMS] - 1)
        and has_bits_of(thing[TAKEN], thing_bits(cellar))
        and has_bits_of(thing[OPENED], door_bits(cellar))
        and within(thing[BARS], 0, ALL_BARS)
        and within(thing[WATER], 0, TOP_HEIGHT)
        and min(held(cellar, thing)) >= 0
    )


def has_bits_of(bits, all_bits):
    return within(bits, 0, all_bits) and bits | all_bits == all_bits


def thing_bits(cellar):
    return (1 << len(cellar[THINGS])) - 1


def door_bits(cellar):
    return sum([1 << number for number, kind in enumerate(door_kinds(cellar)) if kind is not None])


# For each way the kind that its door takes, None where it has no door.
def door_kinds(cellar):
    return [gate[1] if gate[0] == "door" else None for a, b, gate, back in cellar[WAYS]]
