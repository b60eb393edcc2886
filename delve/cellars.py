"""Cellars: made of whole numbers and lists, or refused with NoCellar."""

from delve.errors import NoCellar
from delve.gates import is_gate
from delve.whole import ALL_BARS, LAST_KIND, TOP_HEIGHT, within

# Where each part stands in a cellar's tuple.
ROOMS = 0
FIRST = 1
LAST = 2
WAYS = 3
THINGS = 4
LEVERS = 5
WHEELS = 6
FIRST_BARS = 7
FIRST_WATER = 8

# Where each part stands in a way's tuple.
WAY_A = 0
WAY_B = 1
WAY_GATE = 2
WAY_BACK = 3

# Where each part stands in a thing's, a lever's or a wheel's tuple.
PAIR_ROOM = 0
PAIR_NUMBER = 1

MOST_ROOMS = 14
MOST_WAYS = 20
MOST_THINGS = 8
MOST_LEVERS = 4
MOST_WHEELS = 4


def cellar(rooms, first, last, ways, things=None, levers=None, wheels=None, bars=0, water=0):
    check_number("rooms", rooms, 1, MOST_ROOMS)
    check_number("first", first, 0, rooms - 1)
    check_number("last", last, 0, rooms - 1)
    check_number("bars", bars, 0, ALL_BARS)
    check_number("water", water, 0, TOP_HEIGHT)
    return (
        rooms,
        first,
        last,
        made_ways(rooms, ways),
        made_pairs("things", rooms, things, MOST_THINGS, 0, LAST_KIND),
        made_pairs("levers", rooms, levers, MOST_LEVERS, 1, ALL_BARS),
        made_pairs("wheels", rooms, wheels, MOST_WHEELS, 0, TOP_HEIGHT),
        bars,
        water,
    )


# For those that have a cellar's parts together, most often a cellar's with one of them changed.
def made_of(parts):
    return cellar(
        parts[ROOMS],
        parts[FIRST],
        parts[LAST],
        parts[WAYS],
        parts[THINGS],
        parts[LEVERS],
        parts[WHEELS],
        parts[FIRST_BARS],
        parts[FIRST_WATER],
    )


def check_number(name, number, least, most):
    if not within(number, least, most):
        raise NoCellar(f"{name}: {number!r} is not from {least} to {most}")


def made_ways(rooms, ways):
    made = made_rows("ways", ways, MOST_WAYS)
    for a, b, gate, back in made:
        check_number("ways, a room", a, 0, rooms - 1)
        check_number("ways, a room", b, 0, rooms - 1)
        if a == b:
            raise NoCellar(f"ways: one leads from room {a} to itself")
        if not is_gate(gate):
            raise NoCellar(f"ways: {gate!r} is no gate")
    return made


# Things, levers and wheels are alike: a room, and a number with a range.
def made_pairs(name, rooms, pairs, most_pairs, least, most):
    made = made_rows(name, pairs, most_pairs)
    for room, number in made:
        check_number(f"{name}, a room", room, 0, rooms - 1)
        check_number(f"{name}, a number", number, least, most)
    return made


def made_rows(name, rows, most):
    # Copied, so that what is done to the lists afterwards changes nothing here.
    made = () if rows is None else tuple([tuple(row) for row in rows])
    if len(made) > most:
        raise NoCellar(f"{name}: more than {most}")
    return made
